import PyProof.Rows.All
import Wide.All
import OpenK.AllK
import Wide.FinOn
import HandS.ForMost
import HandS.Defaults
import HandS.TupAny
import HandS.FStr
import HandS.StrMore
import HandS.Steps
import HandS.Walk
import HandS.IsInst
import HandS.Style
import HandS.HeadEnd
import HandS.HeadHook1
import HandS.HeadHook2
import HandS.Head2
import HandS.ExcOwn
import HandS.Codes
import PyProof.NsCount
import HandS.Conv
import HandS.ListItems
import PyProof.AutoSeq1
import KE.GoesEnum
import HandS.More
import HandS.Strs
import HandS.ExcInit
import HandS.ExcField
import HandS.ExcIs
import KE.KExcIs
import HandS.Small
import HandS.TryOnly
import HandS.TryMany
import HandS.RaiseMore
import PyProof.SeqIndex
import KE.KIndexOf
import PyProof.ReprRoads
import HandS.Zip
import KE.GoesMore
import HandS.SetKeys
import HandS.HeadHook3
import HandS.HeadHook4
import PyProof.EqKinds
import PyProof.NeKinds
import PyProof.FactsAll.dict_1
import PyProof.FactsAll.list_2
import HandS.Lambda
import HandS.RaiseFrom
import HandS.SuiteRaise
import HandS.NoneIn
import HandS.Flow
import HandS.SortInts
import HandS.DictComp
import KE.KDictZip
import PyProof.ListNew
import HandS.Keys
import HandS.ExcInitHot
import KE.SortData
import HandS.EndBits
import HandS.HeadWalk
import PySem.Challenge.RW_twigscripts_k07_names_for_a_skeleton
set_option Elab.async false
set_option linter.all false
set_option maxRecDepth 100000
set_option maxHeartbeats 4000000
/-! Rules of my own over the hand layer: a def of the text as a callee (Cal), readings with names. -/
namespace Tw
open PySem PySem.Spec PyProof.Rows L2
section
variable {P : Program} {w : World} {K : PySem.W.Frag} {mg : Str → Option Value} {base : Heap}
/-- the def st of the text stands under the name x -/
def Df (K : PySem.W.Frag) (mg : Str → Option Value) (x : Str) (st : Stmt) : Prop := ∃ (f : Addr) (fd : FuncData), mg x = some (.ref f) ∧ FunD K x x (defArgs st) (defBody st) (defScope st) [] [] f fd
/-- a def that may be called: it keeps the promise sp -/
def Cal (P : Program) (w : World) (K : PySem.W.Frag) (mg : Str → Option Value) (base : Heap) (CX : CXT) (x : Str) (ps : List Str) (k : Nat) (sp : Sp) : Prop :=
  ∃ (f : Addr) (fd : FuncData), FnOk P w K mg base CX k f fd ps sp ∧ mg x = some (.ref f) ∧ PySem.W.keepIn K (.ref f) = true ∧ Binds K fd ps []
theorem Cal.mono {CX : CXT} {x : Str} {ps : List Str} {j k : Nat} {sp : Sp} (c : Cal P w K mg base CX x ps j sp) (h : j ≤ k) : Cal P w K mg base CX x ps k sp := by
  obtain ⟨f, fd, F, g, kp, b⟩ := c
  exact ⟨f, fd, F.mono h, g, kp, b⟩
theorem Cal.imp {CX : CXT} {x : Str} {ps : List Str} {k : Nat} {sp sp' : Sp} (c : Cal P w K mg base CX x ps k sp) (h : ∀ vs H Q E, sp' vs H Q E → sp vs H Q E) : Cal P w K mg base CX x ps k sp' := by
  obtain ⟨f, fd, F, g, kp, b⟩ := c
  exact ⟨f, fd, F.imp h, g, kp, b⟩
theorem Df.cal {CX : CXT} {x : Str} {st : Stmt} {N ps : List Str} {k : Nat} {sp : Sp} (D : Df K mg x st) (S : FnScope N ps (defScope st))
    (hb : ∀ (kV doc pm : Value) (an : Option Addr) (cdv ct : Value) (us : List Value), us.length = ps.length → bindArgs (PySem.W.fnOf x x (defArgs st) (defBody st) (defScope st) .none kV doc pm an cdv ct) ⟨us, []⟩ = pure (ps.zip us))
    (len : ∀ vs H Q E, sp vs H Q E → vs.length = ps.length)
    (hbody : ∀ (f : Addr) (cdv : Value) (A : Around) (outer : List Env) (s : Shared) (H : Hp) (vs : List V) (Q : VK) (E : XK), Room k (A.deeper (envOfC x (defScope st) s.heap.objs.size f cdv)) → sp vs H Q E →
      ∃ t, PSs (cxOf CX P w K mg base N x (defScope st) f cdv A outer s H E) (defBody st) t ∧ t { nx := fun _ H' => Q .non H', rt := Q } (start N vs) H) : Cal P w K mg base CX x ps (k + 1) sp := by
  obtain ⟨f, fd, g, F⟩ := D
  exact ⟨f, fd, F.ok S len (hbody f), g, F.kp, F.bindsN hb⟩
end
section
variable {X : Cx} {CX : CXT} {k : Nat} {ps : List Str} {sp : Sp} {E : XK} {x : Str} {p pos : Pos} {e : Expr} {es : List Expr} {t : TA}
theorem pe_cal (c : Cal X.prog X.w X.K X.mg X.base CX x ps k sp) (hr : Room k X.A) (hg : Gl X x) (hx : Passes CX X E) (ha : PA X (e :: es) t) (hdb : (x == ("__debug__" : Str)) = false := by decide)
    (he : starEach (e :: es) X.env = (false, eval e X.env) :: starEach es X.env := by rfl) (hpl : (backTo pos (starEach es X.env)).any (·.1) = false := by rfl) : PE X (.Call (.Name x p) (e :: es) [] pos) (tCall sp [] E t) := by
  obtain ⟨f, fd, F, g, kp, b⟩ := c
  exact pe_call F hr hg g kp b .nil hx ha hdb he hpl
end
/-! readings by names -/
abbrev rAddStr : R2 := fun x y H Q => ∃ i j, x = .str i ∧ y = .str j ∧ i.length + j.length ≤ sizeLine ∧ Q (.str (i ++ j)) H
abbrev rLenStr : List V → Hp → VK → Prop := fun xs H Q => ∃ z, xs = [.str z] ∧ z.length ≤ sizeLine ∧ Q (.int z.length) H
abbrev rLenSeq (K : PySem.W.Frag) : List V → Hp → VK → Prop := fun xs H Q => ∃ p ys, xs = [.ref p] ∧ (SqL K H p ys ∨ SqT K H p ys) ∧ Q (.int ys.length) H
abbrev rLenD : List V → Hp → VK → Prop := fun xs H Q => ∃ a kvs, xs = [V.ref a] ∧ H a = some (.dK kvs) ∧ Q (.int kvs.length) H
abbrev rAbs : List V → Hp → VK → Prop := fun xs H Q => ∃ i, xs = [.int i] ∧ Q (.int (if i < 0 then -i else i)) H
abbrev rInt1 : List V → Hp → VK → Prop := fun xs H Q => (∃ i, xs = [.int i] ∧ Q (.int i) H) ∨ ∃ k, xs = [.bl k] ∧ Q (.int (if k then 1 else 0)) H
abbrev rListOf (K : PySem.W.Frag) : List V → Hp → VK → Prop := fun xs H Q => ∃ p ys, xs = [.ref p] ∧ (SqL K H p ys ∨ SqT K H p ys) ∧ ∀ l, H l = none → Q (.ref l) (upd H l (.lst ys))
abbrev rTupleOf (K : PySem.W.Frag) : List V → Hp → VK → Prop := fun xs H Q => ∃ p ys, xs = [.ref p] ∧ ((SqL K H p ys ∧ ∀ l, H l = none → Q (.ref l) (upd H l (.tup ys))) ∨ (SqT K H p ys ∧ Q (.ref p) H))
abbrev rMax2 : List V → Hp → VK → Prop := fun xs H Q => ∃ i j, xs = [.int i, .int j] ∧ Q (.int (if j > i then j else i)) H
abbrev rMin2 : List V → Hp → VK → Prop := fun xs H Q => ∃ i j, xs = [.int i, .int j] ∧ Q (.int (if j < i then j else i)) H
abbrev rInsert : V → List V → Hp → VK → Prop := fun x vs H Q => ∃ (l : Addr) (xs : List V) (i : Int) (y : V), x = .ref l ∧ vs = [.int i, y] ∧ H l = some (.lst xs) ∧ xs.length < sizeLine ∧ 0 ≤ i ∧ i < 2 ^ 63 ∧ Q .non (upd H l (.lst (xs.take i.toNat ++ [y] ++ xs.drop i.toNat)))
abbrev rJoin (K : PySem.W.Frag) : V → List V → Hp → VK → Prop := fun x xs H Q => ∃ a p, ∃ ys : List Str, x = .str a ∧ xs = [.ref p] ∧ (SqL K H p (ys.map V.str) ∨ SqT K H p (ys.map V.str)) ∧ (ys.map (·.length)).sum + ys.length * a.length ≤ 16777216 ∧ Q (.str (Txt.join a ys)) H
abbrev rTxtB (f : Str → Bool) : V → List V → Hp → VK → Prop := fun x xs H Q => ∃ a, x = .str a ∧ xs = [] ∧ True ∧ Q (.bl (f a)) H
abbrev tJoined (ts : List TE) : TE := fun σ H Q => tJs ts Str.empty σ H fun out H1 => Q (.str out) H1
end Tw
set_option Elab.async false
set_option linter.all false
set_option maxRecDepth 100000
set_option maxHeartbeats 4000000
/-! Callees that may raise: the call is read in a context that says where what is raised goes. -/
namespace Tw
open PySem PySem.Spec PyProof.Rows L2
section
variable {X : Cx} {CX : CXT} {k : Nat} {ps : List Str} {sp : Sp} {E : L2.St → XK} {x : Str} {p pos : Pos} {e : Expr} {es : List Expr} {t : TA}
/-- a callee that may raise, in a body whose context takes what it raises -/
theorem pe_calS (c : Cal X.prog X.w X.K X.mg X.base CX x ps k sp) (hr : Room k X.A) (hg : Gl X x) (hx : ∀ σ, PassesAt CX X σ (E σ)) (ha : PA X (e :: es) t) (hdb : (x == ("__debug__" : Str)) = false := by decide)
    (he : starEach (e :: es) X.env = (false, eval e X.env) :: starEach es X.env := by rfl) (hpl : (backTo pos (starEach es X.env)).any (·.1) = false := by rfl) : PE X (.Call (.Name x p) (e :: es) [] pos) (tCallS sp E t) := by
  obtain ⟨f, fd, F, g, kp, b⟩ := c
  exact pe_callS F hr hg g kp b hx ha hdb he hpl
end
end Tw
set_option Elab.async false
set_option linter.all false
set_option maxRecDepth 100000
set_option maxHeartbeats 4000000
namespace Tw
open PySem PySem.Spec PyProof.Rows L2
/-! ### readings, opened -/
section
variable {K : PySem.W.Frag} {σ : L2.St} {H : Hp} {Q : VK} {ta tb te tl th : TE} {r : R2} {D : Ends} {t u : TS}
theorem o_op : tOp r ta tb σ H Q = ta σ H fun x H1 => tb σ H1 fun y H2 => r x y H2 Q := rfl
theorem o_un {r : V → Hp → VK → Prop} : tUn r ta σ H Q = ta σ H fun x H1 => r x H1 Q := rfl
theorem o_var {i : Nat} : tVar i σ H Q = ∃ v, σ[i]? = some (some v) ∧ Q v H := rfl
theorem o_c {v : V} : tC v σ H Q = Q v H := rfl
theorem o_cb {r : List V → Hp → VK → Prop} {t : TA} : tCB r t σ H Q = t σ H fun vs H1 => r vs H1 Q := rfl
theorem o_call {sp : Sp} {dvs : List V} {E : XK} {t : TA} : tCall sp dvs E t σ H Q = t σ H fun vs H1 => sp (vs ++ dvs) H1 Q E := rfl
theorem o_cons {tr : TA} {Q : List V → Hp → Prop} : tCons ta tr σ H Q = ta σ H fun x H1 => tr σ H1 fun xs H2 => Q (x :: xs) H2 := rfl
theorem o_nil {Q : List V → Hp → Prop} : tNil σ H Q = Q [] H := rfl
theorem o_tup {t : TA} : tTup t σ H Q = t σ H fun xs H1 => xs.length ≤ sizeLine ∧ ∀ p, H1 p = none → Q (.ref p) (upd H1 p (.tup xs)) := rfl
theorem o_lst {t : TA} : tLst t σ H Q = t σ H fun xs H1 => xs.length ≤ sizeLine ∧ ∀ p, H1 p = none → Q (.ref p) (upd H1 p (.lst xs)) := rfl
theorem o_I0 {g : Int → Int → V} {i j : Int} : rI0 g (.int i) (.int j) H Q = Q (g i j) H := by
  apply propext; constructor
  · rintro ⟨a, b, e1, e2, q⟩; cases e1; cases e2; exact q
  · intro q; exact ⟨i, j, rfl, rfl, q⟩
theorem o_I {C : Int → Int → Prop} {g : Int → Int → V} {i j : Int} : rI C g (.int i) (.int j) H Q = (C i j ∧ Q (g i j) H) := by
  apply propext; constructor
  · rintro ⟨a, b, e1, e2, q⟩; cases e1; cases e2; exact q
  · intro q; exact ⟨i, j, rfl, rfl, q⟩
theorem o_int1 {i : Int} : rInt1 [.int i] H Q = Q (.int i) H := by
  apply propext; constructor
  · rintro (⟨a, e, q⟩ | ⟨a, e, q⟩)
    · cases e; exact q
    · cases e
  · intro q; exact .inl ⟨i, rfl, q⟩
theorem o_intb {k : Bool} : rInt1 [.bl k] H Q = Q (.int (if k then 1 else 0)) H := by
  apply propext; constructor
  · rintro (⟨a, e, q⟩ | ⟨a, e, q⟩)
    · cases e
    · cases e; exact q
  · intro q; exact .inr ⟨k, rfl, q⟩
theorem o_abs {i : Int} : rAbs [.int i] H Q = Q (.int (if i < 0 then -i else i)) H := by
  apply propext; constructor
  · rintro ⟨a, e, q⟩; cases e; exact q
  · intro q; exact ⟨i, rfl, q⟩
theorem o_test {Q : Bool → Hp → Prop} : tTest te σ H Q = te σ H fun x H' => ∃ k, x = .bl k ∧ Q k H' := rfl
theorem o_b {Q : Bool → Hp → Prop} : tB te σ H Q = te σ H fun x H' => ∃ k, x = .bl k ∧ Q k H' := rfl
theorem o_not {t : TT} {Q : Bool → Hp → Prop} : tNot t σ H Q = t σ H fun c H1 => Q (!c) H1 := rfl
theorem o_and {t u : TT} {Q : Bool → Hp → Prop} : tAnd t u σ H Q = t σ H fun c H1 => if c = true then u σ H1 Q else Q false H1 := rfl
theorem o_or {t u : TT} {Q : Bool → Hp → Prop} : tOr t u σ H Q = t σ H fun c H1 => if c = true then Q true H1 else u σ H1 Q := rfl
theorem o_andV : tAndV ta tb σ H Q = ta σ H fun x H1 => ∃ c, x = .bl c ∧ if c = true then tb σ H1 Q else Q (.bl false) H1 := rfl
theorem o_orV : tOrV ta tb σ H Q = ta σ H fun x H1 => ∃ c, x = .bl c ∧ if c = true then Q (.bl true) H1 else tb σ H1 Q := rfl
theorem o_notV : tNotV ta σ H Q = ta σ H fun x H1 => ∃ c, x = .bl c ∧ Q (.bl (!c)) H1 := rfl
theorem o_ifE {t : TT} : tIf t ta tb σ H Q = t σ H fun c H1 => if c = true then ta σ H1 Q else tb σ H1 Q := rfl
theorem o_isN : tIsN ta σ H Q = ta σ H fun x H1 => Q (.bl (decide (x = .non))) H1 := rfl
theorem o_notN : tNotN ta σ H Q = ta σ H fun x H1 => Q (.bl (!decide (x = .non))) H1 := rfl
theorem o_eq {x y : V} : rEq x y H Q = (scal x y = true ∧ Q (.bl (decide (x = y))) H) := rfl
theorem o_ne {x y : V} : rNe x y H Q = (scal x y = true ∧ Q (.bl (!decide (x = y))) H) := rfl
theorem o_seq : tSeq t u D σ H = t { D with nx := u D } σ H := rfl
theorem o_next : tNext D σ H = D.nx σ H := rfl
theorem o_asg {g : TG} : tAsg te g D σ H = te σ H fun x H1 => g x σ H1 D.nx := rfl
theorem o_name {i : Nat} {v : V} {Q : L2.St → Hp → Prop} : gName i v σ H Q = Q (σ.set i (some v)) H := rfl
theorem o_sub {to ti : TE} {t : TSet} {v : V} {Q : L2.St → Hp → Prop} : gSub to ti t v σ H Q = to σ H fun o H1 => ti σ H1 fun i H2 => t o i v H2 fun H3 => Q σ H3 := rfl
theorem o_par {i j : Nat} {ta : TA} : tPar i j ta D σ H = ta σ H fun vs H1 => ∃ v w, vs = [v, w] ∧ D.nx ((σ.set i (some v)).set j (some w)) H1 := rfl
theorem o_drop : tDrop te D σ H = te σ H fun _ H1 => D.nx σ H1 := rfl
theorem o_ret : tRet te D σ H = te σ H D.rt := rfl
theorem o_retN : tRetN D σ H = D.rt .non H := rfl
theorem o_ifS {c : TT} : tIfS c t u D σ H = c σ H fun b H1 => if b = true then t D σ H1 else u D σ H1 := rfl
theorem o_sl {r : V → Option Int → Option Int → Hp → VK → Prop} {tl th : TO} : L2.tSl r te tl th σ H Q = te σ H fun x H1 => tl σ H1 fun l H2 => th σ H2 fun u H3 => r x l u H3 Q := rfl
theorem o_noPart {Q : Option Int → Hp → Prop} : tNoPart σ H Q = Q none H := rfl
theorem o_part {Q : Option Int → Hp → Prop} : tPart te σ H Q = te σ H fun x H1 => ∃ i, x = .int i ∧ Q (some i) H1 := rfl
theorem o_bm {T : String} {r : V → List V → Hp → VK → Prop} {to : TE} {t : TA} : tBM K T r to t σ H Q = to σ H fun x H1 => tyV K T x H1 ∧ t σ H1 fun xs H2 => r x xs H2 Q := rfl
theorem o_bm0 {T : String} {r : V → List V → Hp → VK → Prop} {to : TE} : tBM0 K T r to σ H Q = to σ H fun x H1 => tyV K T x H1 ∧ r x [] H1 Q := rfl
theorem o_m0 {r : V → List V → Hp → VK → Prop} {to : TE} : tM0 r to σ H Q = to σ H fun x H1 => (∃ a, x = .str a) ∧ r x [] H1 Q := rfl
theorem o_m1 {r : V → List V → Hp → VK → Prop} {to : TE} : tM1 r to te σ H Q = to σ H fun x H1 => (∃ a, x = .str a) ∧ te σ H1 fun y H2 => r x [y] H2 Q := rfl
theorem e_bl {k : Bool} {P : Bool → Prop} : (∃ c, V.bl k = V.bl c ∧ P c) = P k := by
  apply propext; constructor
  · rintro ⟨c, e, q⟩; cases e; exact q
  · intro q; exact ⟨k, rfl, q⟩
theorem e_int {k : Int} {P : Int → Prop} : (∃ c, V.int k = V.int c ∧ P c) = P k := by
  apply propext; constructor
  · rintro ⟨c, e, q⟩; cases e; exact q
  · intro q; exact ⟨k, rfl, q⟩
theorem e_str {k : Str} {P : Str → Prop} : (∃ c, V.str k = V.str c ∧ P c) = P k := by
  apply propext; constructor
  · rintro ⟨c, e, q⟩; cases e; exact q
  · intro q; exact ⟨k, rfl, q⟩
theorem e_some {k : V} {P : V → Prop} : (∃ v, some (some k) = some (some v) ∧ P v) = P k := by
  apply propext; constructor
  · rintro ⟨c, e, q⟩; cases e; exact q
  · intro q; exact ⟨k, rfl, q⟩
theorem e_two {a b : V} {P : V → V → Prop} : (∃ v w, [a, b] = [v, w] ∧ P v w) = P a b := by
  apply propext; constructor
  · rintro ⟨c, d, e, q⟩; cases e; exact q
  · intro q; exact ⟨a, b, rfl, q⟩
end

/-! ### loops, opened -/
/-- a for over what J walks, from here -/
def ForB (J : It) (g : TG) (tb : TS) (D : Ends) (σ : L2.St) (H : Hp) : Prop := tFor (fun _ _ R => R J H) g tb D σ H
/-- a comprehension over what J walks, from here -/
def LcB (J : It) (g : TG) (tt : TT) (te : TE) (vs : List Nat) (σ : L2.St) (H : Hp) (Q : VK) : Prop := tLc (fun _ _ R => R J H) g tt te vs σ H Q
section
variable {K : PySem.W.Frag} {σ : L2.St} {H : Hp} {Q : VK} {ta tb te tl th : TE} {r : R2} {D : Ends} {t u : TS} {g : TG} {wi : TI} {J : It} {tt : TT} {vs : List Nat}
theorem o_for : tFor wi g t D σ H = wi σ H fun J H1 => ForB J g t D σ H1 := rfl
theorem o_lc : tLc wi g tt te vs σ H Q = wi σ H fun J H1 => LcB J g tt te vs σ H1 Q := rfl
theorem o_iList {R : It → Hp → Prop} : iList K tl σ H R = tl σ H fun x H1 => ∃ a, x = .ref a ∧ (∃ xs, SqL K H1 a xs) ∧ R (Itl K a) H1 := rfl
theorem o_iTup {R : It → Hp → Prop} : iTup K tl σ H R = tl σ H fun x H1 => ∃ a, x = .ref a ∧ (∃ xs, SqT K H1 a xs) ∧ R (Itt K a) H1 := rfl
theorem o_iRng1 {ta : TA} {R : It → Hp → Prop} : iRng1 ta σ H R = ta σ H fun vs H1 => ∃ j : Int, vs = [.int j] ∧ -(2 ^ 62) ≤ j ∧ j < 2 ^ 62 ∧ R (Itr 0 j.toNat) H1 := rfl
theorem e_int1 {k : Int} {P : Int → Prop} : (∃ j : Int, [V.int k] = [V.int j] ∧ P j) = P k := by
  apply propext; constructor
  · rintro ⟨c, e, q⟩; cases e; exact q
  · intro q; exact ⟨k, rfl, q⟩
theorem e_ref {k : Addr} {P : Addr → Prop} : (∃ c, V.ref k = V.ref c ∧ P c) = P k := by
  apply propext; constructor
  · rintro ⟨c, e, q⟩; cases e; exact q
  · intro q; exact ⟨k, rfl, q⟩
theorem fb_list {a : Addr} {xs : List V} (Pv : Nat → L2.St → Hp → Prop) (h0 : Pv 0 σ H) (hl : ∀ i σ H, i ≤ xs.length → Pv i σ H → SqL K H a xs)
    (hs : ∀ i x σ H, xs[i]? = some x → Pv i σ H → g x σ H fun σ2 H2 => t { D with nx := Pv (i + 1), ct := Pv (i + 1), bk := D.nx } σ2 H2) (hd : ∀ σ H, Pv xs.length σ H → D.nx σ H) : ForB (Itl K a) g t D σ H :=
  for_list Pv h0 hl hs hd
theorem fb_tup {a : Addr} {xs : List V} (Pv : Nat → L2.St → Hp → Prop) (h0 : Pv 0 σ H) (hl : ∀ i σ H, i ≤ xs.length → Pv i σ H → SqT K H a xs)
    (hs : ∀ i x σ H, xs[i]? = some x → Pv i σ H → g x σ H fun σ2 H2 => t { D with nx := Pv (i + 1), ct := Pv (i + 1), bk := D.nx } σ2 H2) (hd : ∀ σ H, Pv xs.length σ H → D.nx σ H) : ForB (Itt K a) g t D σ H :=
  for_tup Pv h0 hl hs hd
theorem fb_range {lo : Int} {n : Nat} (Pv : Nat → L2.St → Hp → Prop) (h0 : Pv 0 σ H)
    (hs : ∀ i σ H, i < n → Pv i σ H → g (.int (lo + i)) σ H fun σ2 H2 => t { D with nx := Pv (i + 1), ct := Pv (i + 1), bk := D.nx } σ2 H2) (hd : ∀ σ H, Pv n σ H → D.nx σ H) : ForB (Itr lo n) g t D σ H :=
  for_range Pv h0 hs hd
theorem lb_walk {n : Nat} {G : Hp → Prop} {Y : Nat → Hp → V → Hp → Prop} (wk : Walk J n G Y) (Pv : Addr → Nat → Hp → Prop) (h0 : ∀ D, H D = none → Pv D 0 (upd H D (.lst []))) (hG : ∀ D i H, i ≤ n → Pv D i H → G H)
    (hs : ∀ D i x H H', i < n → Pv D i H → Y i H x H' → g x (wipe σ vs) H' fun σ2 H2 => wipe σ2 vs = wipe σ vs ∧ tt σ2 H2 fun b H3 =>
      if b = true then te σ2 H3 fun y H4 => ∃ acc, H4 D = some (.lst acc) ∧ acc.length < sizeLine ∧ Pv D (i + 1) (upd H4 D (.lst (acc ++ [y]))) else Pv D (i + 1) H3) (hd : ∀ D H', H D = none → Pv D n H' → Q (.ref D) H') : LcB J g tt te vs σ H Q :=
  fun D hD => lc_it (Qd := fun H' => Q (.ref D) H') wk (Pv D) (h0 D hD) (hG D) (fun i x H1 H2 hi p y => hs D i x H1 H2 hi p y) fun H1 p => hd D H1 hD p
theorem fb_walk {n : Nat} {G : Hp → Prop} {Y : Nat → Hp → V → Hp → Prop} (wk : Walk J n G Y) (Pv : Nat → L2.St → Hp → Prop) (h0 : Pv 0 σ H) (hG : ∀ i σ H, i ≤ n → Pv i σ H → G H)
    (hs : ∀ i x σ H H', i < n → Pv i σ H → Y i H x H' → g x σ H' fun σ2 H2 => t { D with nx := Pv (i + 1), ct := Pv (i + 1), bk := D.nx } σ2 H2) (hd : ∀ σ H, Pv n σ H → D.nx σ H) : ForB J g t D σ H :=
  for_it wk Pv h0 hG hs hd
end
/-- the slots at a def's entry, by their number -/
def startN (n : Nat) (vs : List V) : L2.St := vs.map some ++ List.replicate (n - vs.length) none
theorem start_n {N : List Str} {vs : List V} {n : Nat} (h : N.length = n) : start N vs = startN n vs := by
  subst h; rfl
end Tw
set_option Elab.async false
set_option linter.all false
set_option maxRecDepth 100000
set_option maxHeartbeats 4000000
namespace Tw
open PySem PySem.Spec PyProof.Rows L2 TL
theorem o_wipe0 {σ : L2.St} : wipe σ [] = σ := rfl
theorem o_wipe1 {σ : L2.St} {v : Nat} {vs : List Nat} : wipe σ (v :: vs) = (wipe σ vs).set v none := rfl
theorem o_yes {σ : L2.St} {H : Hp} {Q : Bool → Hp → Prop} : tYes σ H Q = Q true H := rfl
local macro_rules | `(tactic| walk_at "rd") => `(tactic| simp only [o_op, o_un, o_var, o_c, o_cb, o_call, o_cons, o_nil, o_tup, o_lst, o_I0, o_I, o_int1, o_intb, o_abs, o_test, o_b, o_not, o_and, o_or, o_andV, o_orV, o_notV, o_ifE, o_isN, o_notN, o_eq, o_ne, o_seq, o_next, o_asg, o_name, o_sub, o_par, o_drop, o_ret, o_retN, o_ifS, o_sl, o_noPart, o_part, o_bm, o_bm0, o_m0, o_m1, e_bl, e_int, e_str, e_some, e_two, o_for, o_lc, o_iList, o_iTup, o_iRng1, e_int1, e_ref, o_yes, o_wipe0, o_wipe1, true_and, if_pos, List.getElem?_cons_zero, List.getElem?_cons_succ, List.set_cons_zero, List.set_cons_succ, List.append_nil])
/-- a deck stands at a: three ints -/
def DeckAt (H : Hp) (a : Addr) : Prop := ∃ g m c : Int, H a = some (.lst [.int g, .int m, .int c])
/-- all that was tracked stands as it was, but for the deck at a, which is one still -/
structure Dk (a : Addr) (H H' : Hp) : Prop where
  keep : ∀ b o, H b = some o → b ≠ a → H' b = some o
  deck : DeckAt H' a
theorem Dk.refl {a : Addr} {H : Hp} (d : DeckAt H a) : Dk a H H := ⟨fun _ _ h _ => h, d⟩
theorem Dk.trans {a : Addr} {H H1 H2 : Hp} (x : Dk a H H1) (y : Dk a H1 H2) : Dk a H H2 := ⟨fun b o h n => y.keep b o (x.keep b o h n) n, y.deck⟩
theorem Dk.new {a p : Addr} {H H1 : Hp} {o : HO} (x : Dk a H H1) (n : H1 p = none) : Dk a H (upd H1 p o) :=
  ⟨fun b u h nb => by rw [upd_ne (ne_of_none (x.keep b u h nb) n)]; exact x.keep b u h nb, by
    obtain ⟨g, m, c, e⟩ := x.deck
    exact ⟨g, m, c, by rw [upd_ne (ne_of_none e n)]; exact e⟩⟩
def sp_l_draw : Sp := fun vs H Q _ => ∃ (a : Addr) (n : Int), vs = [.ref a, .int n] ∧ DeckAt H a ∧ 0 < n ∧ n < 1073741824 ∧ ∀ (d : Int) (H' : Hp), 0 ≤ d → d < n → Dk a H H' → Q (.int d) H'
theorem len_l_draw (vs : List V) (H : Hp) (Q : VK) (E : XK) (h : sp_l_draw vs H Q E) : vs.length = 2 := by
  obtain ⟨a, n, rfl, _⟩ := h
  rfl
def t_l_draw (K : PySem.W.Frag) : TS :=
  (tSeq (tIfS (tTest (tOp (rI0 fun i j => .bl (decide (j < i))) (tOp (rIxL K) (tVar 0) (tC (.int 0))) (tC (.int 0)))) (tSeq (tAsg (tOp (rI (fun _ j => 0 < j) fun i j => .int (i % j)) (tCB rInt1 (tCons (tOp (rIxL K) (tVar 0) (tC (.int 0))) tNil)) (tVar 1)) (gName 2))
  (tSeq (tAsg (tOp (rI CDiv fun i j => .int (i / j)) (tOp (rIxL K) (tVar 0) (tC (.int 0))) (tVar 1)) (gSub (tVar 0) (tC (.int 0)) rSetL))
  (tRet (tVar 2)))) tNext)
  (tSeq (tAsg (tOp (rI0 fun i j => .int (i + j)) (tOp (rIxL K) (tVar 0) (tC (.int 2))) (tC (.int 1))) (gSub (tVar 0) (tC (.int 2)) rSetL))
  (tSeq (tAsg (tOp (rI (fun _ j => 0 < j) fun i j => .int (i % j)) (tCB rInt1 (tCons (tOp (rI0 fun i j => .int (i + j)) (tOp (rIxL K) (tVar 0) (tC (.int 1))) (tOp (rI CMul fun i j => .int (i * j)) (tC (.int 11400714819323198485)) (tOp (rIxL K) (tVar 0) (tC (.int 2))))) tNil)) (tC (.int 18446744073709551557))) (gName 3))
  (tSeq (tAsg (tOp (rI (fun _ j => 0 < j) fun i j => .int (i % j)) (tCB rInt1 (tCons (tOp (rI CMul fun i j => .int (i * j)) (tVar 3) (tOp (rI0 fun i j => .int (i + j)) (tOp (rI (fun _ j => 0 < j) fun i j => .int (i % j)) (tVar 3) (tC (.int 4294967291))) (tC (.int 7)))) tNil)) (tC (.int 2305843009213693951))) (gName 3))
  (tRet (tOp (rI (fun _ j => 0 < j) fun i j => .int (i % j)) (tOp (rI CDiv fun i j => .int (i / j)) (tOp (rI (fun _ j => 0 < j) fun i j => .int (i % j)) (tCB rInt1 (tCons (tOp (rI CMul fun i j => .int (i * j)) (tVar 3) (tVar 3)) tNil)) (tC (.int 2305843009213693921))) (tC (.int 2048))) (tVar 1)))))))
def t_l_deck (K : PySem.W.Frag) : TS :=
  (tSeq (tPar 1 2 (tCons (tC (.int 0)) (tCons (tOp (rI0 fun i j => .int (i + j)) (tC (.int 2917)) (tOp (rI CMul fun i j => .int (i * j)) (tC (.int 41)) (tCB (rLenSeq K) (tCons (tVar 0) tNil)))) tNil)))
  (tSeq (tFor (iList K (L2.tSl (rSlL K) (tVar 0) tNoPart (tPart (tC (.int 60))))) (gName 3)
  (tSeq (tAsg (tOp (rI0 fun i j => .int (i + j)) (tOp (rI0 fun i j => .int (i + j)) (tOp (rI CMul fun i j => .int (i * j)) (tC (.int 2)) (tCB rAbs (tCons (tVar 3) tNil))) (tCB rInt1 (tCons (tOp (rI0 fun i j => .bl (decide (i < j))) (tVar 3) (tC (.int 0))) tNil))) (tC (.int 1))) (gName 4))
  (tSeq (tAsg (tOp (rI (fun _ j => 0 < j) fun i j => .int (i % j)) (tCB rInt1 (tCons (tOp (rI0 fun i j => .int (i + j)) (tOp (rI CMul fun i j => .int (i * j)) (tVar 2) (tC (.int 6364136223846793005))) (tVar 4)) tNil)) (tC (.int 2305843009213693951))) (gName 2))
  (tIfS (tTest (tOp (rI0 fun i j => .bl (decide (j ≤ i))) (tCB rAbs (tCons (tVar 3) tNil)) (tOp (rI CPow fun i j => .int (i ^ j.toNat)) (tC (.int 10)) (tC (.int 18))))) (tAsg (tOp (rI0 fun i j => .int (i + j)) (tOp (rI CMul fun i j => .int (i * j)) (tVar 1) (tC (.int 37))) (tCB rAbs (tCons (tVar 3) tNil))) (gName 1)) tNext))))
  (tRet (tLst (tCons (tVar 1) (tCons (tVar 2) (tCons (tC (.int 0)) tNil)))))))
def t_l_name (K : PySem.W.Frag) : TS :=
  (tSeq (tAsg (tC (.str "abcdefghijklmnopqrstuvwxyz")) (gName 1))
  (tRet (tM1 (rJoin K) (tC (.str "")) (tLc (iRng1 (tCons (tOp (rI0 fun i j => .int (i + j)) (tC (.int 1)) (tCall sp_l_draw [] E0 (tCons (tVar 0) (tCons (tC (.int 8)) tNil)))) tNil)) (gName 2) tYes (tOp rIxS (tVar 1) (tCall sp_l_draw [] E0 (tCons (tVar 0) (tCons (tC (.int 26)) tNil)))) [2]))))
section
variable {K : PySem.W.Frag}
theorem big_mod (x : Int) : -(2 ^ 64) < x % 18446744073709551557 ∧ x % 18446744073709551557 < 2 ^ 64 := by omega
theorem big_mod2 (x : Int) : -(2 ^ 64) < x % 2305843009213693951 ∧ x % 2305843009213693951 < 2 ^ 64 := by omega
theorem o_ixL {p : Addr} {xs : List V} {i : Int} {v : V} {H : Hp} {Q : VK} (h : H p = some (.lst xs)) (e : atI xs i = some v) (q : Q v H) : rIxL K (.ref p) (.int i) H Q := ⟨p, xs, i, v, rfl, rfl, SqL.of h, e, q⟩
theorem pure_l_draw (vs : List V) (H : Hp) (Q : VK) (E : XK) (h : sp_l_draw vs H Q E) : t_l_draw K { nx := fun _ H' => Q .non H', rt := Q } (startN 4 vs) H := by
  obtain ⟨a, n, rfl, ⟨g, m, c, hd⟩, hn, hn2, q⟩ := h
  show t_l_draw K _ [some (.ref a), some (.int n), none, none] H
  unfold t_l_draw
  walk_at "rd"
  refine o_ixL hd rfl ?_
  walk_at "rd"
  by_cases hg : 0 < g
  · rw [decide_eq_true hg, if_pos rfl]
    refine o_ixL hd rfl ?_
    walk_at "rd"
    refine ⟨hn, o_ixL hd rfl ?_⟩
    walk_at "rd"
    refine ⟨⟨hn, hn2⟩, a, _, 0, 0, rfl, rfl, hd, rfl, ?_⟩
    exact q _ _ (Int.emod_nonneg _ (by omega)) (Int.emod_lt_of_pos _ hn) ⟨fun b o e nb => by rw [upd_ne nb]; exact e, _, _, _, upd_same⟩
  · rw [decide_eq_false hg, if_neg (by decide)]
    refine o_ixL hd rfl ?_
    walk_at "rd"
    refine ⟨a, _, 2, 2, rfl, rfl, hd, rfl, ?_⟩
    refine o_ixL upd_same rfl ?_
    refine o_ixL upd_same rfl ?_
    walk_at "rd"
    refine ⟨.inl ⟨by decide, by decide⟩, by decide, by decide, .inl ?_, by decide, .inl ?_, by decide, ⟨by decide, by decide⟩, hn, ?_⟩
    · exact big_mod _
    · exact big_mod2 _
    exact q _ _ (Int.emod_nonneg _ (by omega)) (Int.emod_lt_of_pos _ hn) ⟨fun b o e nb => by rw [upd_ne nb]; exact e, _, _, _, upd_same⟩

/-- all that was tracked stands as it was -/
abbrev Kp (H H' : Hp) : Prop := ∀ b o, H b = some o → H' b = some o
theorem Kp.new {H H1 : Hp} {p : Addr} {o : HO} (x : Kp H H1) (n : H1 p = none) : Kp H (upd H1 p o) := fun b u h => by rw [upd_ne (ne_of_none (x b u h) n)]; exact x b u h
theorem Kp.free {H H1 : Hp} {p : Addr} (x : Kp H H1) (n : H1 p = none) : H p = none := by
  cases e : H p with
  | none => rfl
  | some o => rw [x p o e] at n; cases n
def sp_l_deck (K : PySem.W.Frag) : Sp := fun vs H Q _ => ∃ (a : Addr) (ns : List Int), vs = [.ref a] ∧ SqL K H a (ns.map V.int) ∧ ∀ (d : Addr) (H' : Hp), Kp H H' → DeckAt H' d → H d = none → Q (.ref d) H'
theorem len_l_deck (vs : List V) (H : Hp) (Q : VK) (E : XK) (h : sp_l_deck K vs H Q E) : vs.length = 1 := by
  obtain ⟨a, n, rfl, _⟩ := h
  rfl
theorem pure_l_deck (vs : List V) (H : Hp) (Q : VK) (E : XK) (h : sp_l_deck K vs H Q E) : t_l_deck K { nx := fun _ H' => Q .non H', rt := Q } (startN 5 vs) H := by
  obtain ⟨a, ns, rfl, hs, q⟩ := h
  show t_l_deck K _ [some (.ref a), none, none, none, none] H
  unfold t_l_deck
  walk_at "rd"
  refine ⟨a, _, rfl, .inl hs, ?_⟩
  walk_at "rd"
  refine ⟨.inl ⟨by decide, by decide⟩, ?_⟩
  refine ⟨a, _, rfl, hs, fun p hp => ?_⟩
  walk_at "rd"
  refine ⟨⟨_, SqL.of upd_same⟩, ?_⟩
  refine fb_list (fun i σ H1 => Kp H H1 ∧ H1 p = some (.lst (cutV (ns.map V.int) none (some 60))) ∧ ∃ (g m : Int) (x y : Option V), σ = [some (.ref a), some (.int g), some (.int m), x, y]) ⟨(show Kp H H from fun _ _ h => h).new hp, upd_same, _, _, _, _, rfl⟩ (fun i σ H1 _ h => SqL.of h.2.1) ?_ ?_
  · rintro i x σ H1 hx ⟨kp, h1, g, m, y, z, rfl⟩
    obtain ⟨n, rfl⟩ : ∃ n : Int, x = .int n := by
      have hm : x ∈ ns.map V.int := List.mem_of_mem_drop (List.mem_of_mem_take (List.mem_of_getElem? hx))
      obtain ⟨n, _, e⟩ := List.mem_map.mp hm
      exact ⟨n, e.symm⟩
    walk_at "rd"
    refine ⟨.inl ⟨by decide, by decide⟩, .inr ⟨by decide, by decide⟩, by decide, ⟨by decide, by decide, by decide⟩, ?_⟩
    refine ite2 (fun _ => ⟨.inr ⟨by decide, by decide⟩, kp, h1, _, _, _, _, rfl⟩) fun _ => ⟨kp, h1, _, _, _, _, rfl⟩
  · rintro σ H1 ⟨kp, h1, g, m, y, z, rfl⟩
    walk_at "rd"
    refine ⟨by show 3 ≤ sizeLine; decide, fun d hd => q d _ (kp.new hd) ⟨g, m, 0, upd_same⟩ (kp.free hd)⟩

/-! ### names -/
/-- a name: 1 to 8 letters a to z -/
structure IsName (z : Str) : Prop where
  one : 1 ≤ z.length
  eight : z.length ≤ 8
  let_ : ∀ c ∈ z.cps.toList, 97 ≤ c ∧ c ≤ 122
abbrev abc : Str := "abcdefghijklmnopqrstuvwxyz"
theorem abc_at : ∀ k : Fin 26, abc.cps.toList[k.val]? = some (97 + k.val) := by decide +kernel
theorem abc_ix {d : Int} (h0 : 0 ≤ d) (h1 : d < 26) : atI abc.cps.toList d = some (97 + d.toNat) := by
  obtain ⟨k, rfl⟩ : ∃ k : Nat, d = (k : Int) := ⟨d.toNat, by omega⟩
  exact atI_nat (abc_at ⟨k, by omega⟩)
theorem o_ixS {z : Str} {i : Int} {c : Nat} {H : Hp} {Q : VK} (hz : z.length ≤ sizeLine) (e : atI z.cps.toList i = some c) (q : Q (.str ⟨#[c]⟩) H) : rIxS (.str z) (.int i) H Q := ⟨z, i, c, rfl, rfl, hz, e, q⟩
theorem joinL_nil : ∀ ps : List (List Nat), joinL [] ps = ps.flatten
  | [] => rfl
  | [p] => by simp [joinL]
  | p :: q :: r => by
    show p ++ ([] ++ joinL [] (q :: r)) = _
    rw [joinL_nil (q :: r)]
    simp
theorem join_nil (ys : List Str) : (Txt.join ("" : Str) ys).cps.toList = (ys.map fun y => y.cps.toList).flatten := by
  rw [join_eq]
  have h := tl_join ("" : Str) ys
  have e : tl ("" : Str) = [] := by decide +kernel
  rw [e, joinL_nil] at h
  exact h
def sp_l_name : Sp := fun vs H Q _ => ∃ (a : Addr), vs = [.ref a] ∧ DeckAt H a ∧ ∀ (z : Str) (H' : Hp), IsName z → Dk a H H' → Q (.str z) H'
theorem len_l_name (vs : List V) (H : Hp) (Q : VK) (E : XK) (h : sp_l_name vs H Q E) : vs.length = 1 := by
  obtain ⟨a, rfl, _⟩ := h
  rfl
theorem o_draw {a : Addr} {n : Int} {H : Hp} {Q : VK} {E : XK} (hd : DeckAt H a) (h0 : 0 < n) (h1 : n < 1073741824) (q : ∀ (d : Int) (H' : Hp), 0 ≤ d → d < n → Dk a H H' → Q (.int d) H') : sp_l_draw [.ref a, .int n] H Q E := ⟨a, n, rfl, hd, h0, h1, q⟩
theorem one_letters {ys : List Str} (h : ∀ y ∈ ys, ∃ c, y = ⟨#[c]⟩ ∧ 97 ≤ c ∧ c ≤ 122) : (Txt.join ("" : Str) ys).length = ys.length ∧ ∀ c ∈ (Txt.join ("" : Str) ys).cps.toList, 97 ≤ c ∧ c ≤ 122 := by
  refine ⟨?_, fun c hc => ?_⟩
  · show (Txt.join ("" : Str) ys).cps.size = _
    rw [← Array.length_toList, join_nil]
    induction ys with
    | nil => rfl
    | cons y ys ih =>
      obtain ⟨c, rfl, _⟩ := h y (List.mem_cons_self ..)
      rw [List.map_cons, List.flatten_cons, List.length_append, ih fun y hy => h y (List.mem_cons_of_mem _ hy), List.length_cons]
      show 1 + ys.length = ys.length + 1
      omega
  · rw [join_nil] at hc
    obtain ⟨l, hl, hc⟩ := List.mem_flatten.mp hc
    obtain ⟨y, hy, rfl⟩ := List.mem_map.mp hl
    obtain ⟨d, rfl, h1, h2⟩ := h y hy
    have e : c = d := by simpa using hc
    rw [e]; exact ⟨h1, h2⟩
theorem one_sum : ∀ {ys : List Str}, (∀ y ∈ ys, ∃ c, y = ⟨#[c]⟩ ∧ 97 ≤ c ∧ c ≤ 122) → (ys.map (·.length)).sum = ys.length
  | [], _ => rfl
  | y :: ys, h => by
    obtain ⟨c, rfl, _⟩ := h y (List.mem_cons_self ..)
    rw [List.map_cons, List.sum_cons, one_sum fun y hy => h y (List.mem_cons_of_mem _ hy), List.length_cons]
    show 1 + ys.length = ys.length + 1
    omega
theorem pure_l_name (vs : List V) (H : Hp) (Q : VK) (E : XK) (h : sp_l_name vs H Q E) : t_l_name K { nx := fun _ H' => Q .non H', rt := Q } (startN 3 vs) H := by
  obtain ⟨a, rfl, hd, q⟩ := h
  show t_l_name K _ [some (.ref a), none, none] H
  unfold t_l_name
  walk_at "rd"
  refine ⟨⟨_, rfl⟩, o_draw hd (by decide) (by decide) fun d H1 h0 h1 k => ?_⟩
  walk_at "rd"
  refine ⟨by omega, by omega, ?_⟩
  refine lb_walk walk_range (fun D i H2 => Dk a H H2 ∧ ∃ ys : List Str, ys.length = i ∧ H2 D = some (.lst (ys.map V.str)) ∧ H1 D = none ∧ ∀ y ∈ ys, ∃ c, y = ⟨#[c]⟩ ∧ 97 ≤ c ∧ c ≤ 122) ?_ (fun _ _ _ _ _ => trivial) ?_ ?_
  · intro D hD
    exact ⟨k.new hD, [], rfl, upd_same, hD, by simp⟩
  · rintro D i x H2 H3 hi ⟨k2, ys, hl, h2, hD, hy⟩ ⟨rfl, rfl⟩
    have ha : a ≠ D := by
      obtain ⟨g, m, c, e⟩ := k.deck
      exact ne_of_none e hD
    walk_at "rd"
    refine o_draw k2.deck (by decide) (by decide) fun e H4 h0 h1 k4 => ?_
    refine o_ixS (by decide) (abc_ix h0 h1) ⟨_, k4.keep _ _ h2 ha.symm, ?_, ?_⟩
    · rw [List.length_map, hl]; exact small1000 (by omega)
    · refine ⟨?_, ys ++ [⟨#[97 + e.toNat]⟩], by simp [hl], by rw [upd_same]; simp, hD, ?_⟩
      · have k5 := k2.trans k4
        refine ⟨fun b o h nb => ?_, ?_⟩
        · have n : b ≠ D := ne_of_none (k.keep b o h nb) hD
          rw [upd_ne n]; exact k5.keep b o h nb
        · obtain ⟨g, m, c, e⟩ := k5.deck
          exact ⟨g, m, c, by rw [upd_ne ha]; exact e⟩
      · intro y hy'
        rcases List.mem_append.mp hy' with h | h
        · exact hy y h
        · have e2 := List.mem_singleton.mp h
          exact ⟨_, e2, by omega, by omega⟩
  · rintro D H2 hD ⟨k2, ys, hl, h2, _, hy⟩
    obtain ⟨l, c⟩ := one_letters hy
    refine ⟨_, D, ys, rfl, rfl, .inl (SqL.of h2), ?_, q _ _ ⟨?_, ?_, c⟩ k2⟩
    · have e : (("" : Str)).length = 0 := by decide +kernel
      rw [e, one_sum hy]; omega
    · omega
    · omega
end
end Tw
set_option Elab.async false
set_option linter.all false
set_option maxRecDepth 100000
set_option maxHeartbeats 4000000
namespace Tw
open PySem PySem.Spec PyProof.Rows L2 TL
abbrev rRepStr : R2 := fun x y H Q => ∃ z n, x = .str z ∧ y = .int n ∧ MulOk z n ∧ Q (.str (Txt.mul z n)) H
theorem op_rep_str {X : Cx} : OpR X (binaryOp .Mult) rRepStr := by
  intro pins s σ H x y v u Q I rx ry h
  obtain ⟨z, n, rfl, rfl, ok, q⟩ := h
  obtain ⟨t, rfl⟩ := rx
  obtain ⟨t', rfl⟩ := ry
  exact SB.mul ok fun t' k => ⟨.str (Txt.mul z n), H, I.tok _, ⟨_, rfl⟩, q⟩
theorem o_par3 {i j l : Nat} {ta : TA} {D : Ends} {σ : L2.St} {H : Hp} : tPar3 i j l ta D σ H = ta σ H fun vs H1 => ∃ u v w, vs = [u, v, w] ∧ D.nx (((σ.set i (some u)).set j (some v)).set l (some w)) H1 := rfl
theorem e_three {a b c : V} {P : V → V → V → Prop} : (∃ u v w, [a, b, c] = [u, v, w] ∧ P u v w) = P a b c := by
  apply propext; constructor
  · rintro ⟨c, d, e, h, q⟩; cases h; exact q
  · intro q; exact ⟨a, b, c, rfl, q⟩
end Tw
namespace Tw
open PySem PySem.Spec PyProof.Rows L2 TL
local macro_rules | `(tactic| walk_at "rd") => `(tactic| try simp only [o_op, o_un, o_var, o_c, o_cb, o_call, o_cons, o_nil, o_tup, o_lst, o_I0, o_I, o_int1, o_intb, o_abs, o_test, o_b, o_not, o_and, o_or, o_andV, o_orV, o_notV, o_ifE, o_isN, o_notN, o_eq, o_ne, o_seq, o_next, o_asg, o_name, o_sub, o_par, o_par3, o_drop, o_ret, o_retN, o_ifS, o_sl, o_noPart, o_part, o_bm, o_bm0, o_m0, o_m1, e_bl, e_int, e_str, e_some, e_two, e_three, o_for, o_lc, o_iList, o_iTup, o_iRng1, e_int1, e_ref, o_yes, o_wipe0, o_wipe1, true_and, if_pos, List.getElem?_cons_zero, List.getElem?_cons_succ, List.set_cons_zero, List.set_cons_succ, List.append_nil])
def t_l_names_b1 (K : PySem.W.Frag) : TS :=
  (tSeq (tAsg (tOp (rIxL K) (tVar 3) (tVar 7)) (gName 11))
  (tAsg (tOp (rI0 fun i j => .int (i + j)) (tVar 7) (tC (.int 1))) (gName 7)))
def t_l_names_r1 (K : PySem.W.Frag) : TS :=
  (tSeq (tWhile (tTest (tOp (rIn K false) (tVar 11) (tVar 8)))
  (t_l_names_b1 K))
  (tDrop (tBM K "list" rAppend (tVar 8) (tCons (tVar 11) tNil))))
def t_l_names_r2 (K : PySem.W.Frag) : TS :=
  (C8.tCut (tIfS (tTest (tOp rEq (tVar 10) (tC (.int 0)))) (tAsg (tCall sp_l_name [] E0 (tCons (tVar 0) tNil)) (gName 11)) (tIfS (tTest (tOp rEq (tVar 10) (tC (.int 1)))) (tAsg (tOp rAddStr (tOp rAddStr (L2.tSl rSlS (tVar 5) tNoPart (tPart (tVar 6))) (tOp rIxS (tVar 2) (tCall sp_l_draw [] E0 (tCons (tVar 0) (tCons (tC (.int 26)) tNil))))) (L2.tSl rSlS (tVar 5) (tPart (tOp (rI0 fun i j => .int (i + j)) (tVar 6) (tC (.int 1)))) tNoPart)) (gName 11)) (tAsg (L2.tSl rSlS (tVar 5) tNoPart (tPart (tOp (rI0 fun i j => .int (i + j)) (tC (.int 1)) (tCall sp_l_draw [] E0 (tCons (tVar 0) (tCons (tC (.int 8)) tNil)))))) (gName 11))))
  (t_l_names_r1 K))
def t_l_names_b2 (K : PySem.W.Frag) : TS :=
  (C8.tCut (tAsg (tIf (tTest (tOp rEq (tVar 4) (tC (.int 3)))) (tCall sp_l_draw [] E0 (tCons (tVar 0) (tCons (tC (.int 3)) tNil))) (tVar 4)) (gName 10))
  (t_l_names_r2 K))
def t_l_names (K : PySem.W.Frag) : TS :=
  (tSeq (tAsg (tC (.str "abcdefghijklmnopqrstuvwxyz")) (gName 2))
  (tSeq (tAsg (tLc (iRng1 (tCons (tC (.int 676)) tNil)) (gName 9) tYes (tOp rAddStr (tOp rIxS (tVar 2) (tOp (rI CDiv fun i j => .int (i / j)) (tVar 9) (tC (.int 26)))) (tOp rIxS (tVar 2) (tOp (rI (fun _ j => 0 < j) fun i j => .int (i % j)) (tVar 9) (tC (.int 26))))) [9]) (gName 3))
  (tSeq (tPar 4 5 (tCons (tCall sp_l_draw [] E0 (tCons (tVar 0) (tCons (tC (.int 4)) tNil))) (tCons (L2.tSl rSlS (tOp rRepStr (tCall sp_l_name [] E0 (tCons (tVar 0) tNil)) (tC (.int 8))) tNoPart (tPart (tC (.int 8)))) tNil)))
  (tSeq (tPar3 6 7 8 (tCons (tCall sp_l_draw [] E0 (tCons (tVar 0) (tCons (tC (.int 8)) tNil))) (tCons (tC (.int 0)) (tCons (tLst tNil) tNil))))
  (tSeq (tFor (iRng1 (tCons (tVar 1) tNil)) (gName 9)
  (t_l_names_b2 K))
  (tRet (tVar 8)))))))
section
variable {K : PySem.W.Frag}
/-! texts of letters -/
def Lets (l : List Nat) : Prop := ∀ c ∈ l, 97 ≤ c ∧ c ≤ 122
theorem IsName.of {z : Str} {l : List Nat} (e : z.cps.toList = l) (h : Lets l) (h1 : 1 ≤ l.length) (h8 : l.length ≤ 8) : IsName z := by
  have hz : z.length = l.length := by show z.cps.size = _; rw [← Array.length_toList, e]
  exact ⟨by omega, by omega, by rw [e]; exact h⟩
theorem len_tl (z : Str) : z.length = z.cps.toList.length := (Array.length_toList).symm
theorem tl_cut (z : Str) (lo hi : Option Int) : (cutS z lo hi).cps.toList = (z.cps.toList.drop (HT.sIx z.length 0 lo)).take (HT.sIx z.length z.length hi - HT.sIx z.length 0 lo) := rfl
theorem tl_app (x y : Str) : (x ++ y).cps.toList = x.cps.toList ++ y.cps.toList := Array.toList_append
theorem foldl_app (xs : List (Array Nat)) : ∀ a : Array Nat, (xs.foldl (· ++ ·) a).toList = a.toList ++ (xs.map Array.toList).flatten := by
  induction xs with
  | nil => intro a; simp
  | cons x xs ih => intro a; rw [List.foldl_cons, ih]; simp
theorem tl_mul8 {z : Str} (h : 1 ≤ z.length) : (Txt.mul z 8).cps.toList = (List.replicate 8 z.cps.toList).flatten := by
  unfold Txt.mul
  rw [if_neg (by omega)]
  have e : ((8 : Int) == 1 || z.length == 0) = false := by
    rw [Bool.or_eq_false_iff]; exact ⟨by decide, by simpa using (by omega : z.length ≠ 0)⟩
  rw [e, if_neg (by decide)]
  show ((List.replicate 8 z.cps).foldl (· ++ ·) #[]).toList = _
  rw [foldl_app]; simp
theorem mulOk8 {z : Str} (h : z.length ≤ 8) : MulOk z 8 := by
  refine ⟨by decide, fun _ _ => ?_, fun _ _ => ?_⟩
  · have e : ((2 : Int) ^ 63 - 1) / 8 = 1152921504606846975 := by decide
    rw [e]; omega
  · rw [show (8 : Int).toNat = 8 from rfl]
    show decide _ = false
    have := sizeLine_eq; exact decide_eq_false (by omega)

/-! spare names -/
def spareS (k : Nat) : Str := ⟨#[97 + k / 26, 97 + k % 26]⟩
theorem spare_name {k : Nat} (h : k < 676) : IsName (spareS k) := by
  refine IsName.of (l := [97 + k / 26, 97 + k % 26]) rfl ?_ (by simp) (by simp)
  intro c hc
  simp only [List.mem_cons, List.not_mem_nil, or_false] at hc
  omega
theorem spare_inj {j k : Nat} (h : spareS j = spareS k) : j = k := by
  have e : [97 + j / 26, 97 + j % 26] = [97 + k / 26, 97 + k % 26] := congrArg (fun z : Str => z.cps.toList) h
  simp only [List.cons.injEq, and_true] at e
  omega
theorem spares_nodup : ∀ n, ((List.range n).map spareS).Nodup := fun n =>
  (List.nodup_range).map _ fun a b h e => h (spare_inj e)
theorem spares_le {t : Nat} {zs : List Str} (h : ∀ j, j < t → spareS j ∈ zs) : t ≤ zs.length := by
  have q := length_le_of_nodup_of_subset _ zs (spares_nodup t) fun a ha => by
    obtain ⟨j, hj, rfl⟩ := List.mem_map.mp ha
    exact h j (List.mem_range.mp hj)
  simpa using q
/-! in over texts -/
theorem inV_str (z : Str) (zs : List Str) : inV (.str z) (zs.map V.str) = decide (z ∈ zs) := by
  unfold inV
  induction zs with
  | nil => rfl
  | cons y ys ih =>
    rw [List.map_cons, List.any_cons, ih]
    show (y == z || _) = _
    by_cases h : y = z
    · subst h; simp
    · have h2 : (y == z) = false := by simpa using h
      have h3 : ¬ z = y := fun e => h e.symm
      rw [h2]; simp [h3]
theorem flat_strs (zs : List Str) : (zs.map V.str).all flatV = true := by simp [List.all_eq_true, flatV]
def sp_l_names : Sp := fun vs H Q _ => ∃ (a : Addr) (n : Int), vs = [.ref a, .int n] ∧ DeckAt H a ∧ 0 ≤ n ∧ n ≤ 300 ∧
  ∀ (p : Addr) (zs : List Str) (H' : Hp), H p = none → Dk a H H' → H' p = some (.lst (zs.map V.str)) → (zs.length : Int) = n → zs.Nodup → (∀ z ∈ zs, IsName z) → Q (.ref p) H'
theorem len_l_names (vs : List V) (H : Hp) (Q : VK) (E : XK) (h : sp_l_names vs H Q E) : vs.length = 2 := by
  obtain ⟨a, n, rfl, _⟩ := h
  rfl
theorem o_namer {a : Addr} {H : Hp} {Q : VK} {E : XK} (hd : DeckAt H a) (q : ∀ (z : Str) (H' : Hp), IsName z → Dk a H H' → Q (.str z) H') : sp_l_name [.ref a] H Q E := ⟨a, rfl, hd, q⟩
theorem nodup_snoc {α : Type} [DecidableEq α] {l : List α} {x : α} (h : l.Nodup) (hx : x ∉ l) : (l ++ [x]).Nodup := by
  rw [List.nodup_append]
  refine ⟨h, by simp, fun a ha b hb e => hx ?_⟩
  rw [← List.mem_singleton.mp hb, ← e]; exact ha
/-- the deck at a and the list at ns have changed, no more -/
structure Dk2 (a ns : Addr) (H H' : Hp) : Prop where
  keep : ∀ b o, H b = some o → b ≠ a → b ≠ ns → H' b = some o
  deck : DeckAt H' a
theorem o_isIn {p : Addr} {zs : List Str} {z : Str} {H : Hp} {Q : VK} (h : H p = some (.lst (zs.map V.str))) (q : Q (.bl (decide (z ∈ zs))) H) : rIn K false (.str z) (.ref p) H Q :=
  ⟨p, _, rfl, .inl (SqL.of h), rfl, flat_strs zs, by rw [if_neg (by decide), inV_str]; exact q⟩
theorem names_r1 {H : Hp} {D : Ends} {sp ns a : Addr} {zs : List Str} {t : Nat} {z : Str} {x0 x1 x2 x4 x5 x6 x9 x10 : Option V} (hd : DeckAt H a) (hna : ns ≠ a) (hnD : ns ≠ sp)
    (s5 : H sp = some (.lst ((List.range 676).map fun k => V.str (spareS k)))) (n5 : H ns = some (.lst (zs.map V.str))) (nd : zs.Nodup) (hspr : ∀ j, j < t → spareS j ∈ zs) (hl : zs.length < 300) (hz : IsName z)
    (q : ∀ (H' : Hp) (t' : Nat) (z' : Str), Dk2 a ns H H' → z' ∉ zs → IsName z' → (∀ j, j < t' → spareS j ∈ zs ++ [z']) → H' ns = some (.lst ((zs ++ [z']).map V.str)) → D.nx [x0, x1, x2, some (.ref sp), x4, x5, x6, some (.int t'), some (.ref ns), x9, x10, some (.str z')] H') :
    t_l_names_r1 K D [x0, x1, x2, some (.ref sp), x4, x5, x6, some (.int t), some (.ref ns), x9, x10, some (.str z)] H := by
  unfold t_l_names_r1
  walk_at "rd"
  refine ⟨fun m σ H' => H' = H ∧ ∃ (t : Nat) (z : Str), IsName z ∧ (∀ j, j < t → spareS j ∈ zs ∨ spareS j = z) ∧ t ≤ 301 ∧ m = 1000 - t ∧ σ = [x0, x1, x2, some (.ref sp), x4, x5, x6, some (.int t), some (.ref ns), x9, x10, some (.str z)],
    ⟨_, rfl, t, z, hz, fun j h => .inl (hspr j h), by have := spares_le hspr; omega, rfl, rfl⟩, ?_⟩
  rintro m σ H1 ⟨rfl, t, z, hz, hs, ht, rfl, rfl⟩
  walk_at "rd"
  refine o_isIn n5 ?_
  walk_at "rd"
  refine ite2 (fun hin => ?_) (fun hin => ?_)
  · have hin : z ∈ zs := of_decide_eq_true hin
    have hs' : ∀ j, j < t → spareS j ∈ zs := fun j hj => by
      rcases hs j hj with h | h
      · exact h
      · rw [h]; exact hin
    have hle := spares_le hs'
    refine ⟨fun σ' H' => ∃ m', m' < 1000 - t ∧ H' = H1 ∧ ∃ (t : Nat) (z : Str), IsName z ∧ (∀ j, j < t → spareS j ∈ zs ∨ spareS j = z) ∧ t ≤ 301 ∧ m' = 1000 - t ∧ σ' = [x0, x1, x2, some (.ref sp), x4, x5, x6, some (.int t), some (.ref ns), x9, x10, some (.str z)], fun _ _ h => h, ?_⟩
    unfold t_l_names_b1
    walk_at "rd"
    refine o_ixL s5 (v := .str (spareS t)) (atI_nat (by rw [List.getElem?_map, List.getElem?_range (by omega)]; rfl)) ?_
    walk_at "rd"
    refine ⟨1000 - (t + 1), by omega, t + 1, spareS t, spare_name (by omega), fun j hj => ?_, by omega, rfl, rfl⟩
    by_cases e : j = t
    · exact .inr (by rw [e])
    · exact .inl (hs' j (by omega))
  · have hin : z ∉ zs := fun h => hin (decide_eq_true h)
    refine ⟨.inl ⟨rfl, _, SqL.of n5⟩, ns, _, _, rfl, rfl, n5, by rw [List.length_map]; exact small1000 (by omega), ?_⟩
    refine q _ t z ⟨fun b o e nb n2 => by rw [upd_ne n2]; exact e, ?_⟩ hin hz (fun j hj => ?_) (by rw [upd_same]; simp)
    · obtain ⟨g, m, c, e⟩ := hd
      exact ⟨g, m, c, by rw [upd_ne hna.symm]; exact e⟩
    · rcases hs j hj with h | h
      · exact List.mem_append_left _ h
      · rw [h]; exact List.mem_append_right _ (List.mem_singleton.mpr rfl)
theorem names_b2 {H : Hp} {D : Ends} {sp ns a : Addr} {zs : List Str} {t : Nat} {base : Str} {n way place : Int} {x9 x10 x11 : Option V} {i : V} (hd : DeckAt H a) (hna : ns ≠ a) (hnD : ns ≠ sp)
    (s5 : H sp = some (.lst ((List.range 676).map fun k => V.str (spareS k)))) (n5 : H ns = some (.lst (zs.map V.str))) (nd : zs.Nodup) (hnm : ∀ z ∈ zs, IsName z) (hspr : ∀ j, j < t → spareS j ∈ zs) (hl : zs.length < 300)
    (hbl : base.cps.toList.length = 8) (hbt : Lets base.cps.toList) (p0 : 0 ≤ place) (p1 : place < 8)
    (q : ∀ (H' : Hp) (t' : Nat) (z' : Str) (kd : V), Dk2 a ns H H' → z' ∉ zs → IsName z' → (∀ j, j < t' → spareS j ∈ zs ++ [z']) → H' ns = some (.lst ((zs ++ [z']).map V.str)) → D.nx [some (.ref a), some (.int n), some (.str abc), some (.ref sp), some (.int way), some (.str base), some (.int place), some (.int t'), some (.ref ns), some i, some kd, some (.str z')] H') :
    gName 9 i [some (.ref a), some (.int n), some (.str abc), some (.ref sp), some (.int way), some (.str base), some (.int place), some (.int t), some (.ref ns), x9, x10, x11] H fun σ2 H2 => t_l_names_b2 K D σ2 H2 := by
  unfold t_l_names_b2
  walk_at "rd"
  refine ⟨fun σ' H' => Dk a H H' ∧ ∃ kd : V, (∃ k : Int, kd = .int k) ∧ σ' = [some (.ref a), some (.int n), some (.str abc), some (.ref sp), some (.int way), some (.str base), some (.int place), some (.int t), some (.ref ns), some i, some kd, x11], ?_, ?_⟩
  · walk_at "rd"
    refine ⟨rfl, ite2 (fun _ => ?_) fun _ => ⟨Dk.refl hd, _, ⟨_, rfl⟩, rfl⟩⟩
    exact o_draw hd (by decide) (by decide) fun d H1 _ _ k => ⟨k, _, ⟨_, rfl⟩, rfl⟩
  rintro σ' H1 ⟨k1, kd, ⟨kd, rfl⟩, rfl⟩
  unfold t_l_names_r2
  walk_at "rd"
  refine ⟨fun σ' H' => Dk a H1 H' ∧ ∃ z, IsName z ∧ σ' = [some (.ref a), some (.int n), some (.str abc), some (.ref sp), some (.int way), some (.str base), some (.int place), some (.int t), some (.ref ns), some i, some (.int kd), some (.str z)], ?_, ?_⟩
  · have hz := sizeLine_eq
    have hb8 : base.length = 8 := by rw [len_tl]; exact hbl
    walk_at "rd"
    refine ⟨rfl, ite2 (fun _ => ?_) fun _ => ⟨rfl, ite2 (fun _ => ?_) fun _ => ?_⟩⟩
    · exact o_namer k1.deck fun z H2 h k => ⟨k, z, h, rfl⟩
    · refine ⟨_, rfl, by omega, ?_⟩
      walk_at "rd"
      refine o_draw k1.deck (by decide) (by decide) fun d H2 d0 d1 k2 => ?_
      refine o_ixS (by decide) (abc_ix d0 d1) ?_
      have l1 : (cutS base none (some place)).cps.toList = base.cps.toList.take place.toNat := by
        rw [tl_cut, show (some place) = some ((place.toNat : Nat) : Int) from by rw [Int.toNat_of_nonneg p0], HT.sIx_nat, HT.sIx_none, hb8, List.drop_zero, Nat.sub_zero, Nat.min_eq_left (by omega)]
      have l2 : (cutS base (some (place + 1)) none).cps.toList = base.cps.toList.drop (place.toNat + 1) := by
        rw [tl_cut, show (some (place + 1)) = some ((place.toNat + 1 : Nat) : Int) from by congr 1; omega, HT.sIx_nat, HT.sIx_none, hb8, Nat.min_eq_left (by omega), List.take_of_length_le]
        rw [List.length_drop, hbl]; omega
      have n1 : (cutS base none (some place)).length = place.toNat := by rw [len_tl, l1, List.length_take, hbl]; omega
      have n2 : (cutS base (some (place + 1)) none).length = 7 - place.toNat := by rw [len_tl, l2, List.length_drop, hbl]; omega
      have n3 : (cutS base none (some place) ++ (⟨#[97 + d.toNat]⟩ : Str)).length = place.toNat + 1 := by rw [len_tl, tl_app, l1]; simp [hbl]; omega
      refine ⟨_, _, rfl, rfl, by rw [n1]; show _ + 1 ≤ _; omega, ?_⟩
      refine ⟨_, rfl, by omega, ?_⟩
      refine ⟨_, _, rfl, rfl, by rw [n2, n3]; omega, k2, _, ?_, rfl⟩
      refine IsName.of (l := base.cps.toList.take place.toNat ++ [97 + d.toNat] ++ base.cps.toList.drop (place.toNat + 1)) ?_ ?_ ?_ ?_
      · rw [tl_app, tl_app, l1, l2]
      · intro c hc
        rcases List.mem_append.mp hc with h | h
        · rcases List.mem_append.mp h with h | h
          · exact hbt c (List.mem_of_mem_take h)
          · have := List.mem_singleton.mp h; omega
        · exact hbt c (List.mem_of_mem_drop h)
      · simp [hbl]; omega
      · simp [hbl]; omega
    · refine o_draw k1.deck (by decide) (by decide) fun d H2 d0 d1 k2 => ?_
      walk_at "rd"
      refine ⟨_, rfl, by omega, k2, _, ?_, rfl⟩
      have l1 : (cutS base none (some (1 + d))).cps.toList = base.cps.toList.take (1 + d.toNat) := by
        rw [tl_cut, show (some (1 + d)) = some ((1 + d.toNat : Nat) : Int) from by congr 1; omega, HT.sIx_nat, HT.sIx_none, hb8, List.drop_zero, Nat.sub_zero, Nat.min_eq_left (by omega)]
      refine IsName.of l1 (fun c hc => hbt c (List.mem_of_mem_take hc)) ?_ ?_
      · rw [List.length_take, hbl]; omega
      · rw [List.length_take, hbl]; omega
  rintro σ' H2 ⟨k2, z, hz, rfl⟩
  have k3 := k1.trans k2
  have hsa : sp ≠ a := fun e => by
    obtain ⟨g, m, c, e2⟩ := hd
    rw [e, e2] at s5; cases s5
  refine names_r1 k3.deck hna hnD (k3.keep _ _ s5 hsa) (k3.keep _ _ n5 hna) nd hspr hl hz fun H3 t' z' k4 h1 h2 h3 h4 => ?_
  exact q H3 t' z' _ ⟨fun b o e nb n2 => k4.keep b o (k3.keep b o e nb) nb n2, k4.deck⟩ h1 h2 h3 h4
theorem pure_l_names (vs : List V) (H : Hp) (Q : VK) (E : XK) (h : sp_l_names vs H Q E) : t_l_names K { nx := fun _ H' => Q .non H', rt := Q } (startN 12 vs) H := by
  obtain ⟨a, n, rfl, hd, hn0, hn, q⟩ := h
  show t_l_names K _ [some (.ref a), some (.int n), none, none, none, none, none, none, none, none, none, none] H
  unfold t_l_names
  walk_at "rd"
  refine ⟨by decide, by decide, ?_⟩
  refine lb_walk walk_range (fun D i H2 => H D = none ∧ Kp H H2 ∧ H2 D = some (.lst ((List.range i).map fun k => V.str (spareS k)))) ?_ (fun _ _ _ _ _ => trivial) ?_ ?_
  · intro D hD
    exact ⟨hD, (show Kp H H from fun _ _ h => h).new hD, upd_same⟩
  · rintro D i x H2 H3 hi ⟨hD, kp, h2⟩ ⟨rfl, rfl⟩
    walk_at "rd"
    have hi2 : i < 676 := hi
    refine ⟨⟨by decide, by decide⟩, ?_⟩
    refine o_ixS (by decide) (abc_ix (by omega) (by omega)) ?_
    refine ⟨by decide, ?_⟩
    refine o_ixS (by decide) (abc_ix (by omega) (by omega)) ?_
    refine ⟨_, _, rfl, rfl, (by show 2 ≤ sizeLine; decide), ?_⟩
    refine ⟨_, h2, ?_, ?_⟩
    · simp only [List.length_map, List.length_range]; exact small1000 (by omega)
    · refine ⟨hD, fun b o e => ?_, ?_⟩
      · rw [upd_ne (ne_of_none e hD)]; exact kp b o e
      · rw [upd_same, List.range_succ, List.map_append]
        have e : (⟨#[97 + ((0 + (i : Int)) / 26).toNat]⟩ : Str) ++ ⟨#[97 + ((0 + (i : Int)) % 26).toNat]⟩ = spareS i := by
          show (⟨#[97 + ((0 + (i : Int)) / 26).toNat, 97 + ((0 + (i : Int)) % 26).toNat]⟩ : Str) = ⟨#[97 + i / 26, 97 + i % 26]⟩
          have h1 : ((0 + (i : Int)) / 26).toNat = i / 26 := by omega
          have h2 : ((0 + (i : Int)) % 26).toNat = i % 26 := by omega
          rw [h1, h2]
        rw [e]; rfl
  · rintro D H1 - ⟨hD, kp1, hsp⟩
    have ha : a ≠ D := by
      obtain ⟨g, m, c, e⟩ := hd
      exact ne_of_none e hD
    have hd1 : DeckAt H1 a := by
      obtain ⟨g, m, c, e⟩ := hd
      exact ⟨g, m, c, kp1 _ _ e⟩
    refine o_draw hd1 (by decide) (by decide) fun way H2 w0 w1 k2 => ?_
    refine o_namer k2.deck fun b0 H3 hb0 k3 => ?_
    refine ⟨_, _, rfl, rfl, mulOk8 hb0.eight, ?_⟩
    have hl0 : b0.cps.toList.length = b0.length := (len_tl b0).symm
    have hm8 := tl_mul8 hb0.one
    have hml : (Txt.mul b0 8).length = 8 * b0.length := by
      rw [len_tl, hm8]; simp [hl0]; omega
    have h1 := hb0.one
    have h8 := hb0.eight
    have hz := sizeLine_eq
    refine ⟨_, rfl, by omega, ?_⟩
    -- the base: eight letters
    have hbl : (cutS (Txt.mul b0 8) none (some 8)).cps.toList.length = 8 := by
      rw [tl_cut, show (some (8 : Int)) = some ((8 : Nat) : Int) from rfl, HT.sIx_nat, HT.sIx_none, List.length_take, List.length_drop, ← len_tl]
      omega
    have hbt : Lets (cutS (Txt.mul b0 8) none (some 8)).cps.toList := by
      intro c hc
      have h2 := List.mem_of_mem_drop (List.mem_of_mem_take hc)
      rw [hm8] at h2
      obtain ⟨l, hl, hc2⟩ := List.mem_flatten.mp h2
      rw [List.eq_of_mem_replicate hl] at hc2
      exact hb0.let_ c hc2
    generalize cutS (Txt.mul b0 8) none (some 8) = base at hbl hbt ⊢
    walk_at "rd"
    refine o_draw k3.deck (by decide) (by decide) fun place H4 p0 p1 k4 => ?_
    refine ⟨by decide, fun ns hns => ?_⟩
    refine ⟨by omega, by omega, ?_⟩
    have kk4 : Dk a H1 H4 := (k2.trans k3).trans k4
    have kH : Dk a H H1 := ⟨fun b o e _ => kp1 b o e, hd1⟩
    have kk : Dk a H H4 := kH.trans kk4
    have hsp4 : H4 D = some (.lst ((List.range 676).map fun k => V.str (spareS k))) := kk4.keep _ _ hsp ha.symm
    have hnD : ns ≠ D := fun e => by rw [e, hsp4] at hns; cases hns
    have hna : ns ≠ a := fun e => by
      obtain ⟨g, m, c, e2⟩ := kk4.deck
      rw [e, e2] at hns; cases hns
    have hnH : H ns = none := by
      cases e : H ns with
      | none => rfl
      | some o => rw [kk.keep ns o e hna] at hns; cases hns
    refine fb_range (fun i σ H5 => Dk a H H5 ∧ H5 D = some (.lst ((List.range 676).map fun k => V.str (spareS k))) ∧ ∃ (t : Nat) (zs : List Str) (x y z : Option V), H5 ns = some (.lst (zs.map V.str)) ∧ zs.length = i ∧ zs.Nodup ∧ (∀ z ∈ zs, IsName z) ∧ (∀ j, j < t → spareS j ∈ zs) ∧
        σ = [some (.ref a), some (.int n), some (.str abc), some (.ref D), some (.int way), some (.str base), some (.int place), some (.int t), some (.ref ns), x, y, z]) ?_ ?_ ?_
    · refine ⟨kk.new hns, by rw [upd_ne hnD.symm]; exact hsp4, 0, [], _, _, _, upd_same, rfl, List.nodup_nil, by simp, by simp, rfl⟩
    · rintro i σ H5 hi ⟨k5, s5, t, zs, x, y, z, n5, hlen, nd, hnm, hspr, rfl⟩
      refine names_b2 k5.deck hna hnD s5 n5 nd hnm hspr (by omega) hbl hbt p0 p1 fun H6 t' z' kd k6 hz1 hz2 hsp6 hn6 => ?_
      refine ⟨⟨fun b o e nb => ?_, k6.deck⟩, ?_, t', zs ++ [z'], _, _, _, hn6, by simp [hlen], nodup_snoc nd hz1, ?_, hsp6, rfl⟩
      · have e2 : b ≠ ns := ne_of_none e hnH
        exact (k6.keep b o (k5.keep b o e nb) nb e2)
      · exact k6.keep _ _ s5 ha.symm hnD.symm
      · intro w hw
        rcases List.mem_append.mp hw with h | h
        · exact hnm w h
        · rw [List.mem_singleton.mp h]; exact hz2
    · rintro σ H5 ⟨k5, s5, t, zs, x, y, z, n5, hlen, nd, hnm, hspr, rfl⟩
      walk_at "rd"
      exact q ns zs H5 hnH k5 n5 (by omega) nd hnm
end
end Tw
set_option Elab.async false
set_option linter.all false
set_option maxRecDepth 100000
set_option maxHeartbeats 4000000
/-! forests: a wood as a plain datum -/
namespace Tw
open PySem PySem.Spec PyProof.Rows L2
/-- a wood: the first tree (its name, the wood in it), the others -/
inductive Fo where
  | nil
  | cons (n : Str) (ks r : Fo)
namespace Fo
def tops : Fo → List Str
  | nil => []
  | cons n _ r => n :: tops r
def nm : Fo → List Str
  | nil => []
  | cons n ks r => n :: (nm ks ++ nm r)
def dp : Fo → Nat
  | nil => 0
  | cons _ ks r => max (dp ks + 1) (dp r)
def data : Fo → List PyData
  | nil => []
  | cons n ks r => .tuple [.str n, .tuple (data ks)] :: data r
def plus (n : Str) : Str := ("+" : Str) ++ n
def minus (n : Str) : Str := ("-" : Str) ++ n
def row : Fo → List Str
  | nil => []
  | cons n ks r => plus n :: (row ks ++ minus n :: row r)
def ftake : Nat → Fo → Fo
  | 0, _ => nil
  | _ + 1, nil => nil
  | k + 1, cons n ks r => cons n ks (ftake k r)
def fdrop : Nat → Fo → Fo
  | 0, f => f
  | _ + 1, nil => nil
  | k + 1, cons _ _ r => fdrop k r
def insTop : Nat → Nat → Str → Fo → Fo
  | 0, tk, x, f => cons x (ftake tk f) (fdrop tk f)
  | _ + 1, tk, x, nil => cons x nil nil
  | k + 1, tk, x, cons n ks r => cons n ks (insTop k tk x r)
def insAt (over : Str) (k tk : Nat) (x : Str) : Fo → Fo
  | nil => nil
  | cons n ks r => if n = over then cons n (insTop k tk x ks) r else cons n (insAt over k tk x ks) (insAt over k tk x r)
def Rep (g : Str → List Str) : Fo → Prop
  | nil => True
  | cons n ks r => g n = tops ks ∧ Rep g ks ∧ Rep g r
/-- e tells how deep each node lies -/
def Dep (e : Str → Nat) : Nat → Fo → Prop
  | _, nil => True
  | l, cons n ks r => e n = l + 1 ∧ Dep e (l + 1) ks ∧ Dep e l r
theorem tops_take : ∀ (k : Nat) (f : Fo), tops (ftake k f) = (tops f).take k
  | 0, _ => by simp [ftake, tops]
  | _ + 1, nil => rfl
  | k + 1, cons n ks r => by simp [ftake, tops, tops_take k r]
theorem tops_drop : ∀ (k : Nat) (f : Fo), tops (fdrop k f) = (tops f).drop k
  | 0, _ => by simp [fdrop]
  | _ + 1, nil => rfl
  | k + 1, cons n ks r => by simp [fdrop, tops, tops_drop k r]
theorem tops_ins : ∀ (k tk : Nat) (x : Str) (f : Fo), k ≤ (tops f).length → tops (insTop k tk x f) = (tops f).take k ++ [x] ++ (tops f).drop (k + tk)
  | 0, tk, x, f, _ => by simp [insTop, tops, tops_drop]
  | k + 1, tk, x, nil, h => by simp [tops] at h
  | k + 1, tk, x, cons n ks r, h => by
    have h' : k ≤ (tops r).length := by simp [tops] at h; omega
    have e : k + 1 + tk = (k + tk) + 1 := by omega
    simp [insTop, tops, tops_ins k tk x r h', e]
theorem nm_split : ∀ (k : Nat) (f : Fo), nm f = nm (ftake k f) ++ nm (fdrop k f)
  | 0, _ => by simp [ftake, fdrop, nm]
  | _ + 1, nil => rfl
  | k + 1, cons n ks r => by simp [ftake, fdrop, nm, nm_split k r]
theorem nm_insTop : ∀ (k tk : Nat) (x : Str) (f : Fo), (nm (insTop k tk x f)).Perm (x :: nm f)
  | 0, tk, x, f => by simp [insTop, nm, ← nm_split]
  | _ + 1, tk, x, nil => by simp [insTop, nm]
  | k + 1, tk, x, cons n ks r => by
    simp only [insTop, nm]
    refine (List.Perm.cons n ((nm_insTop k tk x r).append_left (nm ks))).trans ?_
    refine (List.Perm.cons n List.perm_middle).trans ?_
    exact List.Perm.swap x n _
theorem nm_insAt (over : Str) (k tk : Nat) (x : Str) : ∀ (f : Fo), (nm f).Nodup → over ∈ nm f → (nm (insAt over k tk x f)).Perm (x :: nm f)
  | nil, _, h => by simp [nm] at h
  | cons n ks r, hd, h => by
    simp only [nm, List.nodup_cons, List.nodup_append] at hd
    obtain ⟨hn, d1, d2, dd⟩ := hd
    by_cases e : n = over
    · simp only [insAt, if_pos e, nm]
      refine (List.Perm.cons n ((nm_insTop k tk x ks).append_right (nm r))).trans ?_
      exact List.Perm.swap x n _
    · simp only [insAt, if_neg e, nm]
      have h2 : over ∈ nm ks ++ nm r := by
        rcases List.mem_cons.mp (show over ∈ n :: (nm ks ++ nm r) from h) with q | q
        · exact absurd q.symm e
        · exact q
      rcases List.mem_append.mp h2 with q | q
      · have hr : insAt over k tk x r = r := insAt_off over k tk x r fun z => dd over q over z rfl
        rw [hr]
        refine (List.Perm.cons n ((nm_insAt over k tk x ks d1 q).append_right (nm r))).trans ?_
        exact List.Perm.swap x n _
      · have hr : insAt over k tk x ks = ks := insAt_off over k tk x ks fun z => dd over z over q rfl
        rw [hr]
        refine (List.Perm.cons n ((nm_insAt over k tk x r d2 q).append_left (nm ks))).trans ?_
        refine (List.Perm.cons n List.perm_middle).trans ?_
        exact List.Perm.swap x n _
where
  insAt_off (over : Str) (k tk : Nat) (x : Str) : ∀ (f : Fo), over ∉ nm f → insAt over k tk x f = f
    | nil, _ => rfl
    | cons n ks r, h => by
      simp only [nm, List.mem_cons, List.mem_append, not_or] at h
      obtain ⟨h1, h2, h3⟩ := h
      simp only [insAt, if_neg (fun e => h1 e.symm : ¬ n = over), insAt_off over k tk x ks h2, insAt_off over k tk x r h3]
theorem insAt_no {over : Str} {k tk : Nat} {x : Str} {f : Fo} (h : over ∉ nm f) : insAt over k tk x f = f := nm_insAt.insAt_off over k tk x f h
theorem Rep.congr {g g' : Str → List Str} : ∀ {f : Fo}, Rep g f → (∀ n ∈ nm f, g' n = g n) → Rep g' f
  | nil, _, _ => trivial
  | cons n ks r, h, e => ⟨(e n (List.mem_cons_self ..)).trans h.1, Rep.congr h.2.1 fun m hm => e m (List.mem_cons_of_mem _ (List.mem_append_left _ hm)), Rep.congr h.2.2 fun m hm => e m (List.mem_cons_of_mem _ (List.mem_append_right _ hm))⟩
theorem Rep.take {g : Str → List Str} : ∀ {k : Nat} {f : Fo}, Rep g f → Rep g (ftake k f)
  | 0, _, _ => trivial
  | _ + 1, nil, _ => trivial
  | k + 1, cons n ks r, h => ⟨h.1, h.2.1, Rep.take h.2.2⟩
theorem Rep.drop {g : Str → List Str} : ∀ {k : Nat} {f : Fo}, Rep g f → Rep g (fdrop k f)
  | 0, _, h => h
  | _ + 1, nil, _ => trivial
  | k + 1, cons n ks r, h => Rep.drop (k := k) h.2.2
theorem Rep.insTop {g : Str → List Str} {x : Str} {tk : Nat} : ∀ {k : Nat} {f : Fo}, Rep g f → k ≤ (tops f).length → g x = ((tops f).drop k).take tk → Rep g (insTop k tk x f)
  | 0, f, h, _, e => ⟨by rw [tops_take]; simpa using e, h.take, h.drop⟩
  | _ + 1, nil, _, hk, _ => by simp [tops] at hk
  | k + 1, cons n ks r, h, hk, e => ⟨h.1, h.2.1, Rep.insTop h.2.2 (by simp [tops] at hk; omega) (by simpa [tops] using e)⟩
theorem Rep.insAt {g : Str → List Str} {over x : Str} {k tk : Nat} {l : List Str} : ∀ {f : Fo}, Rep g f → (nm f).Nodup → over ∈ nm f → x ∉ nm f → g over = l → k ≤ l.length →
    Rep (fun n => if n = x then (l.drop k).take tk else if n = over then l.take k ++ [x] ++ l.drop (k + tk) else g n) (insAt over k tk x f)
  | nil, _, _, h, _, _, _ => by simp [nm] at h
  | cons n ks r, h, hd, ho, hx, e, hk => by
    simp only [nm, List.nodup_cons, List.nodup_append] at hd
    obtain ⟨hn, d1, d2, dd⟩ := hd
    simp only [nm, List.mem_cons, List.mem_append, not_or] at hx hn
    obtain ⟨x1, x2, x3⟩ := hx
    have off : ∀ f : Fo, x ∉ nm f → over ∉ nm f → Rep g f → Rep (fun n => if n = x then (l.drop k).take tk else if n = over then l.take k ++ [x] ++ l.drop (k + tk) else g n) f := fun f hx ho hf =>
      hf.congr fun m hm => by
        show (if m = x then _ else if m = over then _ else g m) = g m
        rw [if_neg (fun z : m = x => hx (z ▸ hm)), if_neg (fun z : m = over => ho (z ▸ hm))]
    by_cases en : n = over
    · simp only [Fo.insAt, if_pos en]
      have et : tops ks = l := by rw [← h.1, en, e]
      have oks : over ∉ nm ks := fun z => hn.1 (en ▸ z)
      have orr : over ∉ nm r := fun z => hn.2 (en ▸ z)
      refine ⟨?_, ?_, off r x3 orr h.2.2⟩
      · show (if n = x then _ else if n = over then _ else g n) = _
        rw [if_neg (fun z => x1 z.symm), if_pos en, tops_ins _ _ _ _ (by rw [et]; exact hk), et]
      · refine Rep.insTop (off ks x2 oks h.2.1) (by rw [et]; exact hk) ?_
        show (if x = x then _ else _) = _
        rw [if_pos rfl, et]
    · simp only [Fo.insAt, if_neg en]
      have h2 : over ∈ nm ks ∨ over ∈ nm r := by
        rcases List.mem_cons.mp (show over ∈ n :: (nm ks ++ nm r) from ho) with q | q
        · exact absurd q.symm en
        · exact List.mem_append.mp q
      have top : ∀ ks', tops ks' = tops ks → (if n = x then (l.drop k).take tk else if n = over then l.take k ++ [x] ++ l.drop (k + tk) else g n) = tops ks' := fun ks' q => by
        rw [if_neg (fun z => x1 z.symm), if_neg en, q]; exact h.1
      rcases h2 with q | q
      · rw [insAt_no (f := r) fun z => dd over q over z rfl]
        refine ⟨top _ (tops_insAt ..), Rep.insAt h.2.1 d1 q x2 e hk, off r x3 (fun z => dd over q over z rfl) h.2.2⟩
      · rw [insAt_no (f := ks) fun z => dd over z over q rfl]
        exact ⟨top _ rfl, off ks x2 (fun z => dd over z over q rfl) h.2.1, Rep.insAt h.2.2 d2 q x3 e hk⟩
where
  tops_insAt (over : Str) (k tk : Nat) (x : Str) : ∀ f : Fo, tops (Fo.insAt over k tk x f) = tops f
    | nil => rfl
    | cons n ks r => by
      by_cases en : n = over
      · simp only [Fo.insAt, if_pos en, tops]
      · simp only [Fo.insAt, if_neg en, tops, tops_insAt over k tk x r]
theorem tops_insAt {over : Str} {k tk : Nat} {x : Str} {f : Fo} : tops (Fo.insAt over k tk x f) = tops f := Rep.insAt.tops_insAt over k tk x f
theorem dp_le : ∀ f : Fo, dp f ≤ (nm f).length
  | nil => Nat.le_refl _
  | cons n ks r => by
    have h1 := dp_le ks
    have h2 := dp_le r
    simp only [dp, nm, List.length_cons, List.length_append]
    omega
/-! depth -/
theorem Dep.congr {e e' : Str → Nat} : ∀ {f : Fo} {l : Nat}, Dep e l f → (∀ n ∈ nm f, e' n = e n) → Dep e' l f
  | nil, _, _, _ => trivial
  | cons n ks r, l, h, q => ⟨(q n (List.mem_cons_self ..)).trans h.1, Dep.congr h.2.1 fun m hm => q m (List.mem_cons_of_mem _ (List.mem_append_left _ hm)), Dep.congr h.2.2 fun m hm => q m (List.mem_cons_of_mem _ (List.mem_append_right _ hm))⟩
theorem Dep.insTop {e : Str → Nat} {x : Str} : ∀ {k : Nat} {f : Fo} {l : Nat}, Dep e l f → e x = l + 1 → Dep e l (insTop k 0 x f)
  | 0, f, l, h, q => ⟨q, trivial, h⟩
  | _ + 1, nil, l, _, q => ⟨q, trivial, trivial⟩
  | k + 1, cons n ks r, l, h, q => ⟨h.1, h.2.1, Dep.insTop h.2.2 q⟩
theorem Dep.insAt {e : Str → Nat} {over x : Str} {k : Nat} : ∀ {f : Fo} {l : Nat}, Dep e l f → e x = e over + 1 → Dep e l (insAt over k 0 x f)
  | nil, _, _, _ => trivial
  | cons n ks r, l, h, q => by
    by_cases en : n = over
    · simp only [Fo.insAt, if_pos en]
      exact ⟨h.1, Dep.insTop h.2.1 (by rw [q, ← en, h.1]), h.2.2⟩
    · simp only [Fo.insAt, if_neg en]
      exact ⟨h.1, Dep.insAt h.2.1 q, Dep.insAt h.2.2 q⟩
theorem Dep.dp {e : Str → Nat} {t : Nat} : ∀ {f : Fo} {l : Nat}, Dep e l f → (∀ n ∈ nm f, e n ≤ t) → l ≤ t → l + Fo.dp f ≤ t
  | nil, l, _, _, h => h
  | cons n ks r, l, h, q, hl => by
    have h0 := q n (List.mem_cons_self ..)
    have h1 := Dep.dp h.2.1 (fun m hm => q m (List.mem_cons_of_mem _ (List.mem_append_left _ hm))) (by rw [← h.1]; exact h0)
    have h2 := Dep.dp h.2.2 (fun m hm => q m (List.mem_cons_of_mem _ (List.mem_append_right _ hm))) hl
    simp only [Fo.dp]
    omega
end Fo
/-! ### a wood in the heap -/
/-- these values are the trees of f -/
inductive Rp (K : PySem.W.Frag) (H : Hp) : List V → Fo → Prop where
  | nil : Rp K H [] .nil
  | cons {t k : Addr} {n : Str} {kvs vs : List V} {ks r : Fo} : SqT K H t [.str n, .ref k] → SqT K H k kvs → Rp K H kvs ks → Rp K H vs r → Rp K H (.ref t :: vs) (.cons n ks r)
/-- the tuple at a is the wood f -/
def WoodAt (K : PySem.W.Frag) (H : Hp) (a : Addr) (f : Fo) : Prop := ∃ vs, SqT K H a vs ∧ Rp K H vs f
/-- tuples stay -/
def Tk (K : PySem.W.Frag) (H H' : Hp) : Prop := ∀ a xs, SqT K H a xs → SqT K H' a xs
theorem Tk.of {K : PySem.W.Frag} {H H' : Hp} (h : ∀ a o, H a = some o → (∃ xs, o = .tup xs ∨ ∃ ob, o = .frz ob (.tup xs)) → H' a = some o) : Tk K H H' := fun a xs q => by
  rcases q with (q | ⟨ob, q⟩) | q
  · exact .inl (.inl (h a _ q ⟨xs, .inl rfl⟩))
  · exact .inl (.inr ⟨ob, h a _ q ⟨xs, .inr ⟨ob, rfl⟩⟩⟩)
  · exact .inr q
theorem Tk.kp {K : PySem.W.Frag} {H H' : Hp} (h : ∀ a o, H a = some o → H' a = some o) : Tk K H H' := Tk.of fun a o e _ => h a o e
theorem Tk.refl {K : PySem.W.Frag} {H : Hp} : Tk K H H := fun _ _ h => h
theorem Tk.trans {K : PySem.W.Frag} {H H1 H2 : Hp} (x : Tk K H H1) (y : Tk K H1 H2) : Tk K H H2 := fun a xs h => y a xs (x a xs h)
/-- all but a list or a dict is kept -/
theorem Tk.but {K : PySem.W.Frag} {H H' : Hp} {b : Addr} (hb : (∃ xs, H b = some (.lst xs)) ∨ (∃ xs, H b = some (.dK xs)) ∨ H b = none) (h : ∀ a o, H a = some o → a ≠ b → H' a = some o) : Tk K H H' := Tk.of fun a o e q => by
  refine h a o e fun z => ?_
  subst z
  obtain ⟨xs, q⟩ := q
  rcases hb with ⟨ys, hb⟩ | ⟨ys, hb⟩ | hb <;> rw [hb] at e <;> cases e <;> rcases q with q | ⟨_, q⟩ <;> cases q
theorem Rp.mono {K : PySem.W.Frag} {H H' : Hp} (t : Tk K H H') {vs : List V} {f : Fo} (h : Rp K H vs f) : Rp K H' vs f := by
  induction h with
  | nil => exact .nil
  | cons a b _ _ ih1 ih2 => exact .cons (t _ _ a) (t _ _ b) ih1 ih2
theorem WoodAt.mono {K : PySem.W.Frag} {H H' : Hp} (t : Tk K H H') {a : Addr} {f : Fo} (h : WoodAt K H a f) : WoodAt K H' a f := by
  obtain ⟨vs, h1, h2⟩ := h
  exact ⟨vs, t _ _ h1, h2.mono t⟩
theorem Rp.len {K : PySem.W.Frag} {H : Hp} {vs : List V} {f : Fo} (h : Rp K H vs f) : vs.length = f.tops.length := by
  induction h with
  | nil => rfl
  | cons _ _ _ _ _ ih => simp [Fo.tops, ih]
theorem Rp.dp {K : PySem.W.Frag} {H : Hp} {vs : List V} {f : Fo} (h : Rp K H vs f) : DpAll K H vs f.data := by
  induction h with
  | nil => exact .nil
  | cons a b _ _ ih1 ih2 => exact .cons (.tup a (.cons (.str _) (.cons (.tup b ih1) .nil))) ih2
theorem WoodAt.dp {K : PySem.W.Frag} {H : Hp} {a : Addr} {f : Fo} (h : WoodAt K H a f) : Dp K H (.ref a) (.tuple f.data) := by
  obtain ⟨vs, h1, h2⟩ := h
  exact .tup h1 h2.dp
end Tw
set_option Elab.async false
set_option linter.all false
set_option maxRecDepth 100000
set_option maxHeartbeats 4000000
/-! more rules over the hand layer -/
namespace Tw
open PySem PySem.Spec PyProof.Rows L2
/-- list(d.keys()) -/
def tListKeys (te : TE) : TE := fun σ H Q => te σ H fun x H1 => ∃ (d : Addr) (kvs : List (Key × V)), x = .ref d ∧ H1 d = some (.dK kvs) ∧ ∀ q, H1 q = none → Q (.ref q) (upd H1 q (.lst (kvs.map fun kv => kV kv.1)))
section
variable {X : Cx} {e : Expr} {te : TE} {p apos cpos pos : Pos}
theorem pe_listKeys (hm : X.mg "list" = none) (he : PE X e te) (hc : X.calm = true := by rfl) (hg : Gl X "list" := by rfl) (hv : bootBuiltins "list" = some (.type "list") := by decide +kernel) (hbase : attributeBase e "keys" X.env (eval e X.env) = eval e X.env := by rfl) (hline : (apos.endLine == cpos.line) = true := by rfl)
    (hs : starEach [.Call (.Attribute e "keys" apos) [] [] cpos] X.env = (false, eval (.Call (.Attribute e "keys" apos) [] [] cpos) X.env) :: starEach [] X.env := by rfl) :
    PE X (.Call (.Name "list" p) [.Call (.Attribute e "keys" apos) [] [] cpos] [] pos) (tListKeys te) := by
  refine ⟨fun pins s σ H Q I hq => ?_⟩
  refine wpAny_Call_Name_kw (ld_blt I hg hm hv ?_)
  refine PyProof.Rows.callWith_type1 ?_ hs rfl
  rw [hs]
  show wpAny _ _ (spliced ((false, eval (.Call (.Attribute e "keys" apos) [] [] cpos) X.env) :: backTo pos (starEach [] X.env))) _ _ s
  refine Calls.spliced_cons ?_
  refine wpAny_Call_method (T := "dict") (id := "dict.keys") hbase rfl hline F.plainAttrs_dict F.slot_dict_keys F.type_dict_keys (thn (he.run pins s σ H _ I hq) fun u s1 ⟨x, H1, I1, rx, d, kvs, ex, hd, q⟩ => ?_)
  subst ex
  obtain rfl : u = Value.ref d := rx
  obtain ⟨hz, hs0, vs, kv, hdo⟩ := I1.hok d _ hd
  obtain ⟨ep, hat⟩ := hdo.dictAt
  have lk : kvs.length = vs.length := Paired.length kv
  have I2 : Inv X pins σ H1 { s1 with heap := s1.heap.push { cls := .type "dict_keys", data := .fields #[.ref d] } } := I1.kept (t' := s1.toks) fun b ob q => Heap.get?_push_of_some _ q
  refine ⟨hdo.typeIs, hdo.mapOf.noDict, ?_⟩
  show wpAny _ _ (callWith cpos (.builtin "dict.keys") [.ref d] [] []) _ X.xe s1
  refine method_meetsIn F.slot_dict_keys F.entry_dict_keys rfl (PySem.evalArgs_none ⟨rfl, hdo.typeIs, F.args_dict_keys_1 _, _, PySem.W.kdl_meets_keys (mixKind X.prog X.w) d hs0, ⟨vs, hdo⟩, ?_⟩)
  refine Calls.spliced_nil ?_
  refine PySem.W.kdl_call (PySem.W.kdl_keys (r := s1.heap.objs.size) (knd := mixKind X.prog X.w) (kvs := vs) (ep := ep)) (I1.ok.hd hc) ⟨⟨_, Heap.get?_push_size _ rfl, rfl, rfl⟩, hat.push _⟩ (by omega) fun h' tk acc' c' hkeep hS hacc => ?_
  refine ⟨.ref _, upd H1 _ (.lst (kvs.map fun kv => kV kv.1)), I2.laid hkeep (Nat.le_refl _) (show ObjOk X.prog X.w _ _ _ (.lst (kvs.map fun kv => kV kv.1)) from ⟨?_, acc'.toList, c', ?_, ?_⟩), rfl, q _ (I2.hok.fresh (Nat.le_refl _))⟩
  · rw [List.length_map]; exact hz
  · have el : acc'.toList.length = acc'.size := by simp
    refine vals_of_at (by rw [List.length_map, el, hacc.1, lk]) fun j y w h1 h2 => ?_
    obtain ⟨k, y, hky, hi⟩ := hacc.2 j w (by rw [← Array.getElem?_toList]; exact h2)
    have e1 : (kvs.map (·.1))[j]? = some k := by
      rw [KV.keys kv, List.getElem?_map, hky] <;> rfl
    have e2 : (kvs.map fun kv => kV kv.1)[j]? = some (kV k) := by
      have e3 : (kvs.map fun kv => kV kv.1) = (kvs.map (·.1)).map kV := by rw [List.map_map] <;> rfl
      rw [e3, List.getElem?_map, e1] <;> rfl
    rw [e2] at h1
    cases h1
    exact keyIs_rel hi
  · rw [Array.toArray_toList]; exact hS
end
end Tw
namespace Tw
open PySem PySem.Spec PyProof.Rows HT L2
section
variable {prog : Program} {w : World} {A : Around} {E : Value → Shared → Prop} {s : Shared}
theorem places_rev (n : Nat) : Builtin.Slice.slicePlaces ((n : Int) - 1) (-1) (-1) = n := by
  unfold Builtin.Slice.slicePlaces
  have h1 : ¬ ((-1 : Int) > 0) := by omega
  have e : -(-1 : Int) = 1 := by omega
  simp only [h1, if_false, e, Int.ediv_one]
  split <;> omega
theorem sliceApplied_rev {sl : Addr} {vl vu vs : Value} {n : Nat} {Q : Int × Int × Nat → Shared → Prop} (hs : s.heap.IsSliceOf sl vl vu vs) (pl : IsPart vl none) (pu : IsPart vu none) (ps : IsPart vs (some (-1)))
    (h : Q ((n : Int) - 1, -1, n) s) : wpAny (model prog w) A (Builtin.Slice.sliceApplied (.ref sl) (pure (n : Int))) Q E s := by
  obtain ⟨os, hos, hcs, hds⟩ := id hs
  unfold Builtin.Slice.sliceApplied Builtin.Slice.sliceFields
  refine wpAny_bind (wpAny_bind (wpAny_field hos hds (x := vl) rfl (wpAny_bind (wpAny_field hos hds (x := vu) rfl (wpAny_bind (wpAny_field hos hds (x := vs) rfl (wpAny_pure ?_)))))))
  refine wpAny_bind (slicePart_ ps ?_)
  show wpAny _ _ (if ((-1 : Int) == 0) = true then _ else _) _ _ s
  rw [if_neg (by decide)]
  refine wpAny_bind (slicePart_ pl (wpAny_bind (slicePart_ pu (wpAny_bind (wpAny_pure ?_)))))
  show wpAny _ _ (pure ((n : Int) - 1, (-1 : Int), Builtin.Slice.slicePlaces ((n : Int) - 1) (-1) (-1))) _ _ s
  rw [places_rev]
  exact wpAny_pure h
theorem fm_congr {α β : Type} {f g : α → Option β} : ∀ {l : List α}, (∀ a ∈ l, f a = g a) → l.filterMap f = l.filterMap g
  | [], _ => rfl
  | a :: l, h => by
    rw [List.filterMap_cons, List.filterMap_cons, h a (List.mem_cons_self ..), fm_congr fun b hb => h b (List.mem_cons_of_mem _ hb)]
theorem pick_rev (xs : Array Value) : ((List.range xs.size).filterMap fun (m : Nat) => xs[(((xs.size : Int) - 1) + (m : Int) * (-1)).toNat]?).toArray = xs.toList.reverse.toArray := by
  have e : (List.range xs.size).filterMap (fun (m : Nat) => xs[(((xs.size : Int) - 1) + (m : Int) * (-1)).toNat]?) = ((List.range xs.size).map fun k => xs.size - 1 - k).filterMap (xs[·]?) := by
    rw [List.filterMap_map]
    refine fm_congr ?_
    intro m hm
    have hm := List.mem_range.mp hm
    have : (((xs.size : Int) - 1) + (m : Int) * (-1)).toNat = xs.size - 1 - m := by omega
    rw [this]; rfl
  rw [e, PySem.W.krv_range, List.filterMap_reverse, PySem.W.krv_all]
theorem getItem_tuple_rev {t sl : Addr} {items : Array Value} {vl vu vs : Value} {Q : Value → Shared → Prop} (ht : IsTup s.heap t items) (hs : s.heap.IsSliceOf sl vl vu vs) (pl : IsPart vl none) (pu : IsPart vu none) (ps : IsPart vs (some (-1)))
    (h : Q (.ref s.heap.objs.size) { s with heap := s.heap.push { cls := .type "tuple", data := .seq items.toList.reverse.toArray } })
    (hsz : items.size ≤ sizeLine) : wpAny (model prog w) A (getItem (.ref t) (.ref sl)) Q E s := by
  have htake : sizeOk (.seq items.toList.reverse.toArray) := by
    show items.toList.reverse.toArray.size ≤ sizeLine
    rw [List.size_toArray, List.length_reverse, Array.length_toList]
    exact hsz
  obtain ⟨os, hos, hcs, hds⟩ := id hs
  have hTs : s.TypeIs (.ref sl) "slice" := ⟨os, hos, hcs⟩
  unfold getItem
  try with_reducible refine wpAny_holding ?_
  first | refine wpAny_bind (wpAny_pure ?_) | skip
  refine wpAny_bind (wpAny_sequenceKey ht.typeIs (by decide) ?_)
  refine wpAny_bind (wpAny_callSpecial?_slot (name := Str.ofString "__getitem__") ht.typeIs PyProof.Rows.slot_tuple_getitem
    (wpAny_call_entry PyProof.Rows.slot_tuple_getitem ht.typeIs entry_tuple_getitem ?_ (args_tuple_getitem _ _)))
  show wpAny _ _ (Builtin.Tuple.tupleItemsOf (.ref t) >>= _) _ _ s
  refine wpAny_bind (tupleItemsOf_ ht ?_)
  refine wpAny_bind (wpAny_typeOf hTs ?_)
  rw [if_pos (by decide)]
  refine wpAny_bind (sliceApplied_rev hs pl pu ps ?_)
  have hno : ¬ ((((items.size : Int) - 1) == 0 && (-1 : Int) == 1 && items.size == items.size) = true) := by
    intro q
    rw [Bool.and_eq_true, Bool.and_eq_true] at q
    exact absurd q.1.2 (by decide)
  show wpAny _ _ (if (((items.size : Int) - 1) == 0 && (-1 : Int) == 1 && items.size == items.size) = true then _ else _) _ _ s
  rw [if_neg hno, pick_rev]
  first
    | exact wpAny_bind (m := Builtin.Tuple.tupleExact _) (wpAny_newObj_type (wpAny_pure ⟨_, rfl, wpAny_pure h⟩) htake)
    | exact wpAny_bind (m := Builtin.Tuple.tupleExact _) (wpAny_newObj_type (wpAny_bind (wpAny_pure (wpAny_pure ⟨_, rfl, wpAny_pure h⟩))) htake)
    | exact wpAny_bind (wpAny_bind (m := Builtin.Tuple.tupleExact _) (wpAny_newObj_type (wpAny_pure (wpAny_pure ⟨_, rfl, wpAny_pure h⟩)) htake))
    | exact wpAny_bind (wpAny_bind (m := Builtin.Tuple.tupleExact _) (wpAny_newObj_type (wpAny_pure ⟨_, rfl, wpAny_pure h⟩) htake))
end
/-- t[::-1], t a tuple -/
def tRevT (K : PySem.W.Frag) (te : TE) : TE := fun σ H Q => te σ H fun x H1 => ∃ a xs, x = .ref a ∧ SqT K H1 a xs ∧ ∀ p, H1 p = none → Q (.ref p) (upd H1 p (.tup xs.reverse))
section
variable {X : Cx}
theorem pe_revT {e : Expr} {te : TE} {k : Nat} {p1 p2 p3 pos : Pos} (he : PE X e te) : PE X (.Subscript e (.Slice none none (some (.UnaryOp .USub (.Constant (.int 1) k p1) p2)) p3) pos) (tRevT X.K te) := by
  refine ⟨fun pins s σ H Q I h => ?_⟩
  refine Subscript_ (thn (he.run pins s σ H _ I h) fun v s1 ⟨x, H1, I1, r1, q1⟩ => ?_)
  obtain ⟨a, xs, ex, hx, q⟩ := q1
  subst ex
  cases r1
  have hst : PO X (some (.UnaryOp .USub (.Constant (.int 1) k p1) p2)) (tPart (tUn (rU fun i => .int (-i)) (tC (.int 1)))) := po_some (pe_un un_neg pe_int)
  refine wpAny_Slice (thn (po_none.run pins s1 σ H1 (fun o H2 => o = none ∧ H2 = H1) I1 ⟨rfl, rfl⟩) fun vl s2 ⟨l, H2, I2, pl, el, e2⟩ => ?_)
  subst el e2
  refine thn (po_none.run pins s2 σ H2 (fun o H3 => o = none ∧ H3 = H2) I2 ⟨rfl, rfl⟩) fun vu s3 ⟨u, H3, I3, pu, eu, e3⟩ => ?_
  subst eu e3
  refine thn (hst.run pins s3 σ H3 (fun o H4 => o = some (-1) ∧ H4 = H3) I3 ⟨1, rfl, -1, rfl, rfl, rfl⟩) fun vs s4 ⟨o, H4, I4, ps, eo, e4⟩ => ?_
  subst eo e4
  have I5 : Inv X pins σ H4 { s4 with heap := s4.heap.push { cls := .type "slice", data := .fields #[vl, vu, vs] } } := I4.kept (t' := s4.toks) fun b ob q => Heap.get?_push_of_some _ q
  obtain ⟨its, r, ht, hz⟩ := I5.tuple hx
  have hlen := r.length
  show wpAny (model X.prog X.w) X.A (subscriptTail e (.Slice none none (some (.UnaryOp .USub (.Constant (.int 1) k p1) p2)) p3) (.ref a) (.ref s4.heap.objs.size)) (EP X pins σ Q) X.xe { s4 with heap := s4.heap.push { cls := .type "slice", data := .fields #[vl, vu, vs] } }
  refine tail_any (ops := [.ref a, .ref s4.heap.objs.size]) ht.typeIs (PyProof.Rows.slot_tuple_getitem.lookup) ?_ (by with_unfolding_all rfl)
  refine getItem_tuple_rev ht (Heap.IsSliceOf.new _ vl vu vs) pl pu ps ?_ (by rw [List.size_toArray]; omega)
  refine ⟨.ref _, _, I5.laid (t' := s4.toks) (o := .tup xs.reverse) (fun b ob q => Heap.get?_push_of_some _ q) (Nat.le_refl _) ?_, rfl, q _ (I5.hok.fresh (Nat.le_refl _))⟩
  exact ⟨by rw [List.length_reverse]; exact hz, _, r.reverse, ⟨_, Heap.get?_push_size _ rfl, rfl, _, rfl⟩⟩
end
end Tw
set_option Elab.async false
set_option linter.all false
set_option maxRecDepth 100000
set_option maxHeartbeats 4000000
namespace Tw
open PySem PySem.Spec PyProof.Rows L2 TL
section
variable {σ : L2.St} {H : Hp} {Q : VK} {td ty tv te : TE} {D : Ends}
theorem o_dget : tDGet td ty σ H Q = td σ H fun x H1 => ty σ H1 fun y H2 => ∃ a v, x = .ref a ∧ DGet H2 a y (some v) ∧ Q v H2 := rfl
theorem o_dput : sDPut td ty tv D σ H = tv σ H fun v H1 => td σ H1 fun x H2 => ty σ H2 fun y H3 => ∃ a H4, x = .ref a ∧ DPut H3 a y v H4 ∧ D.nx σ H4 := rfl
theorem o_din : tDIn ty td σ H Q = ty σ H fun y H1 => td σ H1 fun x H2 => ∃ a o, x = .ref a ∧ DGet H2 a y o ∧ Q (.bl o.isSome) H2 := rfl
theorem o_dnotin : tDNotIn ty td σ H Q = ty σ H fun y H1 => td σ H1 fun x H2 => ∃ a o, x = .ref a ∧ DGet H2 a y o ∧ Q (.bl (!o.isSome)) H2 := rfl
theorem o_listKeys : tListKeys te σ H Q = te σ H fun x H1 => ∃ (d : Addr) (kvs : List (Key × V)), x = .ref d ∧ H1 d = some (.dK kvs) ∧ ∀ q, H1 q = none → Q (.ref q) (upd H1 q (.lst (kvs.map fun kv => kV kv.1))) := rfl
theorem o_disp {trs : List (TE × TE)} : tDisp trs σ H Q = ∀ p, H p = none → tPairs trs σ (upd H p (.dK [])) fun ps H2 => H2 p = some (.dK []) ∧ ∃ kvs : List (Key × V), ps = kvs.map (fun kv => (kV kv.1, kv.2)) ∧ kvs.length ≤ 15 ∧ Q (.ref p) (upd H2 p (.dK (mergeK [] kvs))) := rfl
theorem o_dnew : tDNewK σ H Q = ∀ p, H p = none → Q (.ref p) (upd H p (.dK [])) := rfl
theorem o_pairs0 {Q : List (V × V) → Hp → Prop} : tPairs [] σ H Q = Q [] H := rfl
theorem o_pairs1 {Q : List (V × V) → Hp → Prop} {tk tv : TE} {r : List (TE × TE)} : tPairs ((tk, tv) :: r) σ H Q = tk σ H fun x H1 => tv σ H1 fun y H2 => tPairs r σ H2 fun ps H3 => Q ((x, y) :: ps) H3 := rfl
end
local macro_rules | `(tactic| walk_at "rd") => `(tactic| try simp only [o_op, o_un, o_var, o_c, o_cb, o_call, o_cons, o_nil, o_tup, o_lst, o_I0, o_I, o_int1, o_intb, o_abs, o_test, o_b, o_not, o_and, o_or, o_andV, o_orV, o_notV, o_ifE, o_isN, o_notN, o_eq, o_ne, o_seq, o_next, o_asg, o_name, o_sub, o_par, o_par3, o_drop, o_ret, o_retN, o_ifS, o_sl, o_noPart, o_part, o_bm, o_bm0, o_m0, o_m1, o_dget, o_dput, o_din, o_dnotin, o_listKeys, e_bl, e_int, e_str, e_some, e_two, e_three, o_for, o_lc, o_iList, o_iTup, o_iRng1, e_int1, e_ref, o_yes, o_wipe0, o_wipe1, o_disp, o_dnew, o_pairs0, o_pairs1, true_and, if_pos, List.getElem?_cons_zero, List.getElem?_cons_succ, List.set_cons_zero, List.set_cons_succ, List.append_nil])
/-! ### dicts by names -/
abbrev kvs (ks : List Str) (F : Str → V) : List (Key × V) := ks.map fun n => ((Sum.inr n : Key), F n)
theorem valV_kvs (F : Str → V) (n : Str) : ∀ ks : List Str, valV (kvs ks F) (Sum.inr n) = if n ∈ ks then some (F n) else none
  | [] => rfl
  | m :: ks => by
    by_cases e : m = n
    · subst e
      rw [show kvs (m :: ks) F = ((Sum.inr m : Key), F m) :: kvs ks F from rfl, valV_pos rfl, if_pos (List.mem_cons_self ..)]
    · rw [show kvs (m :: ks) F = ((Sum.inr m : Key), F m) :: kvs ks F from rfl, valV_neg (fun z => e (Sum.inr.inj z)), valV_kvs F n ks]
      have h : (n ∈ m :: ks) ↔ (n ∈ ks) := ⟨fun z => (List.mem_cons.mp z).resolve_left fun y => e y.symm, fun z => List.mem_cons_of_mem _ z⟩
      simp only [h]
theorem put_old (F : Str → V) (n : Str) (v : V) (ks : List Str) (h : n ∈ ks) : putK (kvs ks F) (Sum.inr n) v = kvs ks fun m => if m = n then v else F m := by
  unfold putK
  have h2 : ((kvs ks F).any fun kv => decide (kv.1 = Sum.inr n)) = true := by
    rw [valV_any, valV_kvs, if_pos h]; rfl
  rw [if_pos h2]
  simp only [kvs, List.map_map]
  refine List.map_congr_left fun m _ => ?_
  show (if (Sum.inr m : Key) = Sum.inr n then _ else _) = _
  by_cases e : m = n
  · rw [if_pos (by rw [e]), if_pos e]
  · rw [if_neg (fun z => e (Sum.inr.inj z)), if_neg e]
theorem put_new (F : Str → V) (n : Str) (v : V) (ks : List Str) (h : n ∉ ks) : putK (kvs ks F) (Sum.inr n) v = kvs (ks ++ [n]) fun m => if m = n then v else F m := by
  rw [putK_new v (by rw [valV_kvs, if_neg h])]
  simp only [kvs, List.map_append, List.map_cons, List.map_nil, if_pos]
  congr 1
  refine List.map_congr_left fun m hm => ?_
  rw [if_neg (fun z : m = n => h (z ▸ hm))]
/-- at d a dict from names to lists of names, each list at a place of its own -/
structure Kids (H : Hp) (d : Addr) (ks : List Str) (g : Str → List Str) (at_ : Str → Addr) : Prop where
  dict : H d = some (.dK (kvs ks fun n => .ref (at_ n)))
  lists : ∀ n ∈ ks, H (at_ n) = some (.lst ((g n).map V.str))
  inj : ∀ n ∈ ks, ∀ m ∈ ks, at_ n = at_ m → n = m
  nd : ks.Nodup
section
variable {H H' : Hp} {d : Addr} {ks : List Str} {g : Str → List Str} {at_ : Str → Addr}
theorem Kids.kp (k : Kids H d ks g at_) (h : Kp H H') : Kids H' d ks g at_ := ⟨h _ _ k.dict, fun n hn => h _ _ (k.lists n hn), k.inj, k.nd⟩
theorem Kids.keep {a : Addr} (k : Kids H d ks g at_) (h : ∀ b o, H b = some o → b ≠ a → H' b = some o) (ha : (∃ x y z : Int, H a = some (.lst [.int x, .int y, .int z]))) : Kids H' d ks g at_ := by
  obtain ⟨x, y, z, ha⟩ := ha
  refine ⟨h _ _ k.dict fun e => ?_, fun n hn => h _ _ (k.lists n hn) fun e => ?_, k.inj, k.nd⟩
  · have := k.dict
    rw [e, ha] at this; cases this
  · have h2 := k.lists n hn
    rw [e, ha] at h2
    have h3 : [V.int x, V.int y, V.int z] = (g n).map V.str := HO.lst.inj (Option.some.inj h2)
    cases hg : g n with
    | nil => rw [hg] at h3; cases h3
    | cons s r => rw [hg] at h3; cases h3
theorem Kids.get (k : Kids H d ks g at_) {n : Str} (hn : n ∈ ks) : DGet H d (.str n) (some (.ref (at_ n))) := by
  have h := DGet.k (k := (Sum.inr n : Key)) k.dict
  rw [valV_kvs, if_pos hn] at h
  exact h
/-- d[x] = a new list, d[over] = a new list -/
theorem Kids.put2 (k : Kids H d ks g at_) {x over : Str} {p q : Addr} {l l2 : List Str} (hx : x ∉ ks) (ho : over ∈ ks) (hp : H p = none) (hq : H q = none) (hpq : p ≠ q) {H1 : Hp}
    (h : ∀ b o, H b = some o → b ≠ d → H1 b = some o) (h1 : H1 p = some (.lst (l.map V.str))) (h2 : H1 q = some (.lst (l2.map V.str))) (hd : H1 d = some (.dK (kvs (ks ++ [x]) fun n => .ref (if n = over then q else if n = x then p else at_ n)))) :
    Kids H1 d (ks ++ [x]) (fun n => if n = x then l else if n = over then l2 else g n) (fun n => if n = over then q else if n = x then p else at_ n) := by
  have hxo : x ≠ over := fun e => hx (e ▸ ho)
  have no : ∀ n ∈ ks, at_ n ≠ p ∧ at_ n ≠ q := fun n hn => ⟨fun e => (by have := k.lists n hn; rw [e, hp] at this; cases this), fun e => (by have := k.lists n hn; rw [e, hq] at this; cases this)⟩
  have hdn : ∀ n ∈ ks, at_ n ≠ d := fun n hn e => by have := k.lists n hn; rw [e, k.dict] at this; cases this
  refine ⟨hd, fun n hn => ?_, fun n hn m hm e => ?_, nodup_snoc k.nd hx⟩
  · show H1 (if n = over then q else if n = x then p else at_ n) = some (.lst ((if n = x then l else if n = over then l2 else g n).map V.str))
    by_cases e1 : n = over
    · have e2 : ¬ n = x := fun z => hxo (z.symm.trans e1)
      rw [if_pos e1, if_neg e2, if_pos e1]; exact h2
    · by_cases e2 : n = x
      · rw [if_neg e1, if_pos e2, if_pos e2]; exact h1
      · rw [if_neg e1, if_neg e2, if_neg e2, if_neg e1]
        have hn' : n ∈ ks := by
          rcases List.mem_append.mp hn with z | z
          · exact z
          · exact absurd (List.mem_singleton.mp z) e2
        exact h _ _ (k.lists n hn') (hdn n hn')
  · have e : (if n = over then q else if n = x then p else at_ n) = (if m = over then q else if m = x then p else at_ m) := e
    have old : ∀ n ∈ ks ++ [x], n ≠ x → n ∈ ks := fun n hn z => by
      rcases List.mem_append.mp hn with y | y
      · exact y
      · exact absurd (List.mem_singleton.mp y) z
    by_cases a1 : n = over
    · rw [if_pos a1] at e
      by_cases b1 : m = over
      · rw [a1, b1]
      · rw [if_neg b1] at e
        by_cases b2 : m = x
        · rw [if_pos b2] at e; exact absurd e.symm hpq
        · rw [if_neg b2] at e; exact absurd e.symm (no m (old m hm b2)).2
    · rw [if_neg a1] at e
      by_cases a2 : n = x
      · rw [if_pos a2] at e
        by_cases b1 : m = over
        · rw [if_pos b1] at e; exact absurd e hpq
        · rw [if_neg b1] at e
          by_cases b2 : m = x
          · rw [a2, b2]
          · rw [if_neg b2] at e; exact absurd e.symm (no m (old m hm b2)).1
      · rw [if_neg a2] at e
        by_cases b1 : m = over
        · rw [if_pos b1] at e; exact absurd e (no n (old n hn a2)).2
        · rw [if_neg b1] at e
          by_cases b2 : m = x
          · rw [if_pos b2] at e; exact absurd e (no n (old n hn a2)).1
          · rw [if_neg b2] at e; exact k.inj n (old n hn a2) m (old m hm b2) e
end
def t_l_wood_of (K : PySem.W.Frag) (rec : Sp) : TS :=
  (tRet (tCB (rTupleOf K) (tCons (tLc (iList K (tDGet (tVar 0) (tVar 1))) (gName 2) tYes (tTup (tCons (tVar 2) (tCons (tCall rec [] E0 (tCons (tVar 0) (tCons (tVar 2) tNil))) tNil))) [2]) tNil)))
/-- the promise of wood_of, by the depth of the wood -/
def spW (K : PySem.W.Frag) : Nat → Sp
  | 0 => fun _ _ _ _ => False
  | m + 1 => fun vs H Q _ => ∃ (d : Addr) (n : Str) (ks : List Str) (g : Str → List Str) (at_ : Str → Addr) (f : Fo), vs = [.ref d, .str n] ∧ Kids H d ks g at_ ∧ n ∈ ks ∧ g n = f.tops ∧ f.Rep g ∧ (∀ x ∈ f.nm, x ∈ ks) ∧ f.dp ≤ m ∧ (Fo.nm f).length ≤ 100000 ∧
    ∀ (a : Addr) (H' : Hp), Kp H H' → WoodAt K H' a f → Q (.ref a) H'
theorem len_spW {K : PySem.W.Frag} {m : Nat} (vs : List V) (H : Hp) (Q : VK) (E : XK) (h : spW K m vs H Q E) : vs.length = 2 := by
  cases m with
  | zero => exact False.elim h
  | succ m =>
    obtain ⟨_, _, _, _, _, _, rfl, _⟩ := h
    rfl
theorem Rp.snoc {K : PySem.W.Frag} {H : Hp} {t k : Addr} {n : Str} {kvs : List V} {ks r : Fo} (h1 : SqT K H t [.str n, .ref k]) (h2 : SqT K H k kvs) (h3 : Rp K H kvs ks) : ∀ {i : Nat} {f : Fo} {vs : List V}, Rp K H vs (f.ftake i) → f.fdrop i = .cons n ks r → Rp K H (vs ++ [.ref t]) (f.ftake (i + 1))
  | 0, f, vs, h, e => by
    cases h
    have e2 : f = .cons n ks r := e
    subst e2
    exact .cons h1 h2 h3 .nil
  | i + 1, .nil, _, _, e => by cases e
  | i + 1, .cons m ks' r', vs, h, e => by
    cases h with
    | cons a b c d => exact .cons a b c (Rp.snoc h1 h2 h3 d e)
theorem ftake_all : ∀ (f : Fo), f.ftake f.tops.length = f
  | .nil => rfl
  | .cons n ks r => by simp only [Fo.tops, List.length_cons, Fo.ftake, ftake_all r]
theorem fdrop_at : ∀ {i : Nat} {f : Fo} {n : Str}, f.tops[i]? = some n → ∃ ks r, f.fdrop i = .cons n ks r
  | _, .nil, _, h => by simp [Fo.tops] at h
  | 0, .cons m ks r, n, h => by
    have e : m = n := by simpa [Fo.tops] using h
    subst e; exact ⟨ks, r, rfl⟩
  | i + 1, .cons m ks r, n, h => fdrop_at (i := i) (f := r) (by simpa [Fo.tops] using h)
theorem drop_facts {g : Str → List Str} : ∀ {i : Nat} {f : Fo} {n : Str} {ks r : Fo}, f.fdrop i = .cons n ks r → f.Rep g → g n = ks.tops ∧ ks.Rep g ∧ ks.dp + 1 ≤ f.dp ∧ (∀ x ∈ ks.nm, x ∈ f.nm) ∧ n ∈ f.nm ∧ ks.nm.length ≤ f.nm.length
  | 0, f, n, ks, r, e, h => by
    have e2 : f = .cons n ks r := e
    subst e2
    refine ⟨h.1, h.2.1, by simp only [Fo.dp]; omega, fun x hx => List.mem_cons_of_mem _ (List.mem_append_left _ hx), List.mem_cons_self .., by simp only [Fo.nm, List.length_cons, List.length_append]; omega⟩
  | i + 1, .nil, _, _, _, e, _ => by cases e
  | i + 1, .cons m ks' r', n, ks, r, e, h => by
    obtain ⟨h1, h2, h3, h4, h5, h6⟩ := drop_facts (i := i) e h.2.2
    refine ⟨h1, h2, by simp only [Fo.dp]; omega, fun x hx => List.mem_cons_of_mem _ (List.mem_append_right _ (h4 x hx)), List.mem_cons_of_mem _ (List.mem_append_right _ h5), by simp only [Fo.nm, List.length_cons, List.length_append]; omega⟩
theorem tops_len (f : Fo) : f.tops.length ≤ f.nm.length := by
  induction f with
  | nil => exact Nat.le_refl _
  | cons n ks r _ ih => simp only [Fo.tops, Fo.nm, List.length_cons, List.length_append]; omega
theorem pure_l_wood_of {K : PySem.W.Frag} {m : Nat} (vs : List V) (H : Hp) (Q : VK) (E : XK) (h : spW K (m + 1) vs H Q E) : t_l_wood_of K (spW K m) { nx := fun _ H' => Q .non H', rt := Q } (startN 3 vs) H := by
  obtain ⟨d, n, ks, g, at_, f, rfl, hk, hn, hg, hr, hin, hdp, hsz, q⟩ := h
  show t_l_wood_of K _ _ [some (.ref d), some (.str n), none] H
  unfold t_l_wood_of
  walk_at "rd"
  refine ⟨d, _, rfl, hk.get hn, ?_⟩
  walk_at "rd"
  have hl : SqL K H (at_ n) (f.tops.map V.str) := by rw [← hg]; exact SqL.of (hk.lists n hn)
  refine ⟨⟨_, hl⟩, ?_⟩
  have htl := tops_len f
  refine lb_walk (n := (f.tops.map V.str).length) walk_list (fun D i H2 => H D = none ∧ Kp H H2 ∧ ∃ vs, H2 D = some (.lst vs) ∧ Rp K H2 vs (f.ftake i)) ?_ ?_ ?_ ?_
  · intro D hD
    exact ⟨hD, (show Kp H H from fun _ _ h => h).new hD, [], upd_same, .nil⟩
  · rintro D i H2 hi ⟨hD, kp, _⟩
    exact SqL.of (kp _ _ (by have := hk.lists n hn; rw [hg] at this; exact this))
  · rintro D i x H2 H3 hi ⟨hD, kp, vs, h2, rp⟩ ⟨rfl, hx⟩
    obtain ⟨kid, hkid, rfl⟩ : ∃ kid, f.tops[i]? = some kid ∧ x = .str kid := by
      rw [List.getElem?_map] at hx
      cases e : f.tops[i]? with
      | none => rw [e] at hx; cases hx
      | some kid => rw [e] at hx; exact ⟨kid, rfl, (Option.some.inj hx).symm⟩
    obtain ⟨sub, r, hf⟩ := fdrop_at hkid
    obtain ⟨f1, f2, f3, f4, f5, f6⟩ := drop_facts hf hr
    walk_at "rd"
    cases m with
    | zero => omega
    | succ m =>
      refine ⟨d, kid, ks, g, at_, sub, rfl, hk.kp kp, hin _ f5, f1, f2, fun x hx => hin x (f4 x hx), by omega, by omega, fun a H4 k4 hw => ?_⟩
      obtain ⟨ws, w1, w2⟩ := hw
      refine ⟨by show 2 ≤ sizeLine; decide, fun t ht => ?_⟩
      have hD4 := k4 _ _ h2
      have htD : t ≠ D := fun e => by rw [e, hD4] at ht; cases ht
      have tk4 : Tk K H3 H4 := Tk.kp k4
      have tk5 : Tk K H4 (upd H4 t (.tup [.str kid, .ref a])) := Tk.kp ((show Kp H4 H4 from fun _ _ h => h).new ht)
      have tk6 : Tk K (upd H4 t (.tup [.str kid, .ref a])) (upd (upd H4 t (.tup [.str kid, .ref a])) D (.lst (vs ++ [.ref t]))) := Tk.but (b := D) (.inl ⟨vs, by rw [upd_ne htD.symm]; exact hD4⟩) fun b o e nb => by rw [upd_ne nb]; exact e
      refine ⟨vs, by rw [upd_ne htD.symm]; exact hD4, ?_, hD, ?_, vs ++ [.ref t], upd_same, ?_⟩
      · rw [rp.len, Fo.tops_take, List.length_take]
        have : i < f.tops.length := by simpa using hi
        have := sizeLine_eq; omega
      · intro b o e
        have e3 : b ≠ D := ne_of_none e hD
        rw [upd_ne e3]
        exact (show Kp H H4 from fun b o e => k4 b o (kp b o e)).new ht b o e
      · exact Rp.snoc (tk6 _ _ (SqT.of upd_same)) ((tk5.trans tk6) _ _ w1) (w2.mono (tk5.trans tk6)) (rp.mono (tk4.trans (tk5.trans tk6))) hf
  · rintro D H2 hD ⟨_, kp, vs, h2, rp⟩
    refine ⟨D, vs, rfl, .inl ⟨SqL.of h2, fun a ha => ?_⟩⟩
    rw [List.length_map, ftake_all] at rp
    exact q a _ (kp.new ha) ⟨vs, SqT.of upd_same, rp.mono (Tk.kp ((show Kp H2 H2 from fun _ _ h => h).new ha))⟩
def t_l_wood_b1 (K : PySem.W.Frag) : TS :=
  (tSeq (tAsg (tOp (rIxL K) (tListKeys (tVar 2)) (tCall sp_l_draw [] E0 (tCons (tVar 0) (tCons (tCB rLenD (tCons (tVar 2) tNil)) tNil)))) (gName 4))
  (tSeq (tAsg (tCall sp_l_draw [] E0 (tCons (tVar 0) (tCons (tOp (rI0 fun i j => .int (i + j)) (tCB (rLenSeq K) (tCons (tDGet (tVar 2) (tVar 4)) tNil)) (tC (.int 1))) tNil))) (gName 5))
  (tSeq (tAsg (tDGet (tVar 2) (tVar 4)) (gName 6))
  (tSeq (tAsg (tOp (rI CMul fun i j => .int (i * j)) (tOp (rI CDiv fun i j => .int (i / j)) (tCall sp_l_draw [] E0 (tCons (tVar 0) (tCons (tC (.int 4)) tNil))) (tC (.int 3))) (tCall sp_l_draw [] E0 (tCons (tVar 0) (tCons (tOp (rI0 fun i j => .int (i + j)) (tOp (rI0 fun i j => .int (i - j)) (tCB (rLenSeq K) (tCons (tVar 6) tNil)) (tVar 5)) (tC (.int 1))) tNil)))) (gName 7))
  (tSeq (sDPut (tVar 2) (tVar 3) (L2.tSl (rSlL K) (tVar 6) (tPart (tVar 5)) (tPart (tOp (rI0 fun i j => .int (i + j)) (tVar 5) (tVar 7)))))
  (sDPut (tVar 2) (tVar 4) (tOp rCat (tOp rCat (L2.tSl (rSlL K) (tVar 6) tNoPart (tPart (tVar 5))) (tLst (tCons (tVar 3) tNil))) (L2.tSl (rSlL K) (tVar 6) (tPart (tOp (rI0 fun i j => .int (i + j)) (tVar 5) (tVar 7))) tNoPart))))))))
def t_l_wood (K : PySem.W.Frag) : TS :=
  (tSeq (tAsg (tDisp [((tC (.str "")), (tLst tNil))]) (gName 2))
  (tSeq (tFor (iList K (tVar 1)) (gName 3)
  (t_l_wood_b1 K))
  (tRet (tCall (spW K 121) [] E0 (tCons (tVar 2) (tCons (tC (.str "")) tNil))))))

theorem gen_new {H H' : Hp} {p : Addr} {o : HO} (hp : H p = none) (h : upd H p o = H') : Kp H H' ∧ H' p = some o := by
  subst h
  exact ⟨fun b u e => by rw [upd_ne (ne_of_none e hp)]; exact e, upd_same⟩
theorem gen_chg {H H' : Hp} {p : Addr} {o : HO} (h : upd H p o = H') : (∀ b u, H b = some u → b ≠ p → H' b = some u) ∧ H' p = some o := by
  subst h
  exact ⟨fun b u e n => by rw [upd_ne n]; exact e, upd_same⟩
/-! ### wood -/
theorem keys_kvs (F : Str → V) (ks : List Str) : (kvs ks F).map (fun kv => kV kv.1) = ks.map V.str := by
  simp only [kvs, List.map_map]; rfl
theorem kvs_len (F : Str → V) (ks : List Str) : (kvs ks F).length = ks.length := List.length_map ..
/-- all of H stands in H' but for the deck at a, the dict at d, which H does not know -/
theorem Dk.off {a d : Addr} {H H1 H2 : Hp} (k : Dk a H H1) (hd : H d = none) (hda : d ≠ a) (h : ∀ b o, H1 b = some o → b ≠ a → b ≠ d → H2 b = some o) (hk : DeckAt H2 a) : Dk a H H2 :=
  ⟨fun b o e nb => h b o (k.keep b o e nb) nb (ne_of_none e hd), hk⟩
theorem deck_ne {H : Hp} {a b : Addr} (h : DeckAt H a) (hb : H b = none) : b ≠ a := fun e => by
  obtain ⟨g, m, c, e2⟩ := h
  rw [e, e2] at hb; cases hb
theorem cutV_str (l : List Str) (lo hi : Option Int) : cutV (l.map V.str) lo hi = ((l.drop (HT.sIx l.length 0 lo)).take (HT.sIx l.length l.length hi - HT.sIx l.length 0 lo)).map V.str := by
  unfold cutV
  simp only [List.length_map, List.map_take, List.map_drop]
structure Woody (K : PySem.W.Frag) (H : Hp) (d : Addr) (ks : List Str) (g : Str → List Str) (at_ : Str → Addr) (f : Fo) : Prop where
  kids : Kids H d (("" : Str) :: ks) g at_
  top : g ("" : Str) = f.tops
  rep : f.Rep g
  perm : f.nm.Perm ks
  named : ("" : Str) ∉ ks
theorem Woody.deck {K : PySem.W.Frag} {H H' : Hp} {a d : Addr} {ks : List Str} {g : Str → List Str} {at_ : Str → Addr} {f : Fo} (w : Woody K H d ks g at_ f) (k : Dk a H H') (ha : DeckAt H a) : Woody K H' d ks g at_ f :=
  ⟨w.kids.keep k.keep ha, w.top, w.rep, w.perm, w.named⟩
/-- the wood with one node more -/
theorem Woody.step {K : PySem.W.Frag} {H H' : Hp} {d p q : Addr} {ks : List Str} {g : Str → List Str} {at_ : Str → Addr} {f : Fo} (w : Woody K H d ks g at_ f) {x over : Str} (hx : x ∉ ("" : Str) :: ks) (ho : over ∈ ("" : Str) :: ks) {k tk : Nat} (hk : k ≤ (g over).length)
    (kd : Kids H' d ((("" : Str) :: ks) ++ [x]) (fun n => if n = x then ((g over).drop k).take tk else if n = over then (g over).take k ++ [x] ++ (g over).drop (k + tk) else g n) (fun n => if n = over then q else if n = x then p else at_ n)) :
    ∃ g' f', Woody K H' d (ks ++ [x]) g' (fun n => if n = over then q else if n = x then p else at_ n) f' ∧ (tk = 0 → ∀ e : Str → Nat, f.Dep e 0 → e ("" : Str) = 0 → e x = e over + 1 → f'.Dep e 0) := by
  have hx0 : ¬ x = ("" : Str) := fun e => hx (e ▸ List.mem_cons_self ..)
  have hxk : x ∉ ks := fun e => hx (List.mem_cons_of_mem _ e)
  have hxf : x ∉ f.nm := fun e => hxk (w.perm.mem_iff.mp e)
  have nd : f.nm.Nodup := w.perm.nodup_iff.mpr (List.nodup_cons.mp w.kids.nd).2
  have h0f : ("" : Str) ∉ f.nm := fun e => w.named (w.perm.mem_iff.mp e)
  by_cases e : over = ("" : Str)
  · subst e
    refine ⟨_, Fo.insTop k tk x f, ⟨kd, ?_, ?_, ?_, ?_⟩, ?_⟩
    · show (if ("" : Str) = x then _ else if ("" : Str) = ("" : Str) then _ else _) = _
      rw [if_neg (fun z => hx0 z.symm), if_pos rfl, Fo.tops_ins _ _ _ _ (by rw [← w.top]; exact hk), w.top]
    · refine Fo.Rep.insTop (w.rep.congr fun m hm => ?_) (by rw [← w.top]; exact hk) ?_
      · show (if m = x then _ else if m = ("" : Str) then _ else g m) = g m
        rw [if_neg (fun z : m = x => hxf (z ▸ hm)), if_neg (fun z : m = ("" : Str) => h0f (z ▸ hm))]
      · show (if x = x then _ else _) = _
        rw [if_pos rfl, w.top]
    · exact (Fo.nm_insTop k tk x f).trans ((w.perm.cons x).trans (List.perm_append_singleton x ks).symm)
    · intro z
      rcases List.mem_append.mp z with y | y
      · exact w.named y
      · exact hx0 (List.mem_singleton.mp y).symm
    · rintro rfl e hd e0 ex
      exact Fo.Dep.insTop hd (by rw [ex, e0])
  · have hof : over ∈ f.nm := w.perm.mem_iff.mpr ((List.mem_cons.mp ho).resolve_left e)
    refine ⟨_, Fo.insAt over k tk x f, ⟨kd, ?_, ?_, ?_, ?_⟩, ?_⟩
    · show (if ("" : Str) = x then _ else if ("" : Str) = over then _ else g ("" : Str)) = _
      rw [if_neg (fun z => hx0 z.symm), if_neg (fun z => e z.symm), Fo.tops_insAt, w.top]
    · exact Fo.Rep.insAt w.rep nd hof hxf rfl hk
    · exact (Fo.nm_insAt over k tk x f nd hof).trans ((w.perm.cons x).trans (List.perm_append_singleton x ks).symm)
    · intro z
      rcases List.mem_append.mp z with y | y
      · exact w.named y
      · exact hx0 (List.mem_singleton.mp y).symm
    · rintro rfl e hd e0 ex
      exact Fo.Dep.insAt hd ex
section
variable {K : PySem.W.Frag}
theorem wood_b1 {H : Hp} {D : Ends} {a d : Addr} {ks : List Str} {g : Str → List Str} {at_ : Str → Addr} {f : Fo} {x : Str} {x1 x4 x5 x6 x7 : Option V} (hd : DeckAt H a) (hda : d ≠ a) (w : Woody K H d ks g at_ f) (hx : x ∉ ("" : Str) :: ks) (hl : ks.length < 1000) (hlen : ∀ n ∈ ("" : Str) :: ks, (g n).length ≤ 1000)
    (q : ∀ (H' : Hp) (g' : Str → List Str) (at' : Str → Addr) (f' : Fo) (y4 y5 y6 y7 : Option V), (∀ b o, H b = some o → b ≠ a → b ≠ d → H' b = some o) → DeckAt H' a → Woody K H' d (ks ++ [x]) g' at' f' → D.nx [some (.ref a), x1, some (.ref d), some (.str x), y4, y5, y6, y7] H') :
    t_l_wood_b1 K D [some (.ref a), x1, some (.ref d), some (.str x), x4, x5, x6, x7] H := by
  unfold t_l_wood_b1
  walk_at "rd"
  refine ⟨d, _, rfl, w.kids.dict, fun l1 hl1 => ?_⟩
  have d1 : d ≠ l1 := ne_of_none w.kids.dict hl1
  refine ⟨d, _, rfl, by rw [upd_ne d1]; exact w.kids.dict, ?_⟩
  rw [kvs_len, keys_kvs]
  have kp1 : Kp H (upd H l1 (.lst ((("" : Str) :: ks).map V.str))) := (show Kp H H from fun _ _ h => h).new hl1
  have hd1 : DeckAt (upd H l1 (.lst ((("" : Str) :: ks).map V.str))) a := by
    obtain ⟨x, y, z, e⟩ := hd
    exact ⟨x, y, z, kp1 _ _ e⟩
  have l1a : l1 ≠ a := deck_ne hd hl1
  refine o_draw hd1 (by simp only [List.length_cons]; omega) (by simp only [List.length_cons]; omega) fun i H2 i0 i1 k2 => ?_
  have k02 : Dk a H H2 := ⟨fun b o e nb => k2.keep b o (kp1 b o e) nb, k2.deck⟩
  have w2 := w.deck k02 hd
  obtain ⟨over, hov⟩ : ∃ over, (("" : Str) :: ks)[i.toNat]? = some over := by
    rw [List.getElem?_eq_getElem (by have : i < ((("" : Str) :: ks).length : Int) := i1; omega)]
    exact ⟨_, rfl⟩
  have ho : over ∈ ("" : Str) :: ks := List.mem_of_getElem? hov
  refine o_ixL (k2.keep _ _ upd_same l1a) (v := .str over) (at_of (j := i.toNat) (by omega) (by rw [List.getElem?_map, hov]; rfl)) ?_
  walk_at "rd"
  refine ⟨d, _, rfl, w2.kids.get ho, ?_⟩
  have lo := w2.kids.lists over ho
  refine ⟨_, _, rfl, .inl (SqL.of lo), ?_⟩
  walk_at "rd"
  have hl1000 := hlen over ho
  refine o_draw k02.deck (by omega) (by simp; omega) fun k H3 a0 a1 k3 => ?_
  have k03 := k02.trans k3
  have w3 := w.deck k03 hd
  refine ⟨d, _, rfl, w3.kids.get ho, ?_⟩
  walk_at "rd"
  refine o_draw k03.deck (by decide) (by decide) fun c H4 c0 c1 k4 => ?_
  have k04 := k03.trans k4
  have w4 := w.deck k04 hd
  walk_at "rd"
  refine ⟨⟨by decide, by decide⟩, ?_⟩
  have lo4 := w4.kids.lists over ho
  refine ⟨_, _, rfl, .inl (SqL.of lo4), ?_⟩
  walk_at "rd"
  simp only [List.length_map] at a1 ⊢
  refine o_draw k04.deck (by omega) (by omega) fun t H5 t0 t1 k5 => ?_
  have k05 := k04.trans k5
  have w5 := w.deck k05 hd
  have lo5 := w5.kids.lists over ho
  walk_at "rd"
  refine ⟨.inl ⟨by omega, by omega⟩, ?_⟩
  obtain ⟨tk, htk, htk2⟩ : ∃ tk : Nat, c / 3 * t = (tk : Int) ∧ k.toNat + tk ≤ (g over).length := by
    have h3 : c / 3 = 0 ∨ c / 3 = 1 := by omega
    rcases h3 with h3 | h3 <;> rw [h3]
    · exact ⟨0, by omega, by omega⟩
    · exact ⟨t.toNat, by omega, by omega⟩
  rw [htk]
  have hk : k = ((k.toNat : Nat) : Int) := by omega
  have e1 : k + (tk : Int) = ((k.toNat + tk : Nat) : Int) := by omega
  generalize hkn : k.toNat = kn at hk e1 htk2
  subst hk
  rw [e1]
  have hz := sizeLine_eq
  refine ⟨at_ over, _, rfl, SqL.of lo5, fun p hp => ?_⟩
  generalize hG : upd H5 p _ = H6
  obtain ⟨k6, e6⟩ := gen_new hp hG
  clear hG
  have lo6 := k6 _ _ lo5
  refine ⟨d, _, rfl, DPut.k (k := (Sum.inr x : Key)) (k6 _ _ w5.kids.dict) (by rw [kvs_len]; simp only [List.length_cons]; omega), ?_⟩
  rw [put_new _ _ _ _ hx]
  generalize hG : upd H6 d _ = H7
  obtain ⟨k7, e7⟩ := gen_chg hG
  clear hG
  have opd : at_ over ≠ d := fun e => by rw [e, w5.kids.dict] at lo5; cases lo5
  have dp : d ≠ p := ne_of_none w5.kids.dict hp
  have lo7 := k7 _ _ lo6 opd
  refine ⟨at_ over, _, rfl, SqL.of lo7, fun p1 hp1 => ?_⟩
  generalize hG : upd H7 p1 _ = H8
  obtain ⟨k8, e8⟩ := gen_new hp1 hG
  clear hG
  refine ⟨by show 1 ≤ sizeLine; decide, fun p2 hp2 => ?_⟩
  generalize hG : upd H8 p2 _ = H9
  obtain ⟨k9, e9⟩ := gen_new hp2 hG
  clear hG
  refine ⟨p1, p2, _, _, rfl, rfl, k9 _ _ e8, e9, ?_, fun p3 hp3 => ?_⟩
  · have := cutV_length ((g over).map V.str) none (some ((kn : Nat) : Int))
    simp only [List.length_map] at this
    simp only [List.length_cons, List.length_nil]; omega
  generalize hG : upd H9 p3 _ = H10
  obtain ⟨k10, e10⟩ := gen_new hp3 hG
  clear hG
  refine ⟨at_ over, _, rfl, SqL.of (k10 _ _ (k9 _ _ (k8 _ _ lo7))), fun p4 hp4 => ?_⟩
  generalize hG : upd H10 p4 _ = H11
  obtain ⟨k11, e11⟩ := gen_new hp4 hG
  clear hG
  refine ⟨p3, p4, _, _, rfl, rfl, k11 _ _ e10, e11, ?_, fun p5 hp5 => ?_⟩
  · have h1 := cutV_length ((g over).map V.str) none (some ((kn : Nat) : Int))
    have h2 := cutV_length ((g over).map V.str) (some ((kn + tk : Nat) : Int)) none
    simp only [List.length_map] at h1 h2
    simp only [List.length_append, List.length_cons, List.length_nil]; omega
  generalize hG : upd H11 p5 _ = H12
  obtain ⟨k12, e12⟩ := gen_new hp5 hG
  clear hG
  have k712 : Kp H7 H12 := fun b o e => k12 _ _ (k11 _ _ (k10 _ _ (k9 _ _ (k8 _ _ e))))
  have k711 : Kp H7 H11 := fun b o e => k11 _ _ (k10 _ _ (k9 _ _ (k8 _ _ e)))
  walk_at "rd"
  refine ⟨d, _, rfl, DPut.k (k := (Sum.inr over : Key)) (k712 _ _ e7) (by rw [kvs_len]; simp only [List.length_cons, List.length_append, List.length_nil]; omega), ?_⟩
  rw [put_old _ _ _ _ (List.mem_append_left _ ho)]
  generalize hG : upd H12 d _ = H13
  obtain ⟨k13, e13⟩ := gen_chg hG
  clear hG
  have k5 : ∀ b o, H5 b = some o → b ≠ d → H13 b = some o := fun b o e nb => k13 _ _ (k712 _ _ (k7 _ _ (k6 _ _ e) nb)) nb
  have hdp5 : d ≠ p5 := ne_of_none (k711 _ _ e7) hp5
  have hpp5 : p ≠ p5 := ne_of_none (k711 _ _ (k7 _ _ e6 dp.symm)) hp5
  have h5p5 : H5 p5 = none := by
    cases e : H5 p5 with
    | none => rfl
    | some o => rw [k711 _ _ (k7 _ _ (k6 _ _ e) hdp5.symm)] at hp5; cases hp5
  obtain ⟨x0, y0, z0, da⟩ := k05.deck
  have hd13 : DeckAt H13 a := ⟨x0, y0, z0, k5 _ _ da hda.symm⟩
  have c1 : cutV ((g over).map V.str) (some ((kn : Nat) : Int)) (some ((kn + tk : Nat) : Int)) = (((g over).drop kn).take tk).map V.str := by
    rw [cutV_str, HT.sIx_nat, HT.sIx_nat, Nat.min_eq_left (by omega), Nat.min_eq_left (by omega)]
    congr 3; omega
  have c2 : cutV ((g over).map V.str) none (some ((kn : Nat) : Int)) = ((g over).take kn).map V.str := by
    rw [cutV_str, HT.sIx_none, HT.sIx_nat, Nat.min_eq_left (by omega)]; simp
  have c3 : cutV ((g over).map V.str) (some ((kn + tk : Nat) : Int)) none = ((g over).drop (kn + tk)).map V.str := by
    rw [cutV_str, HT.sIx_none, HT.sIx_nat, Nat.min_eq_left (by omega)]
    congr 1
    rw [List.take_of_length_le]; simp
  have kd := w5.kids.put2 (H1 := H13) (x := x) (over := over) (p := p) (q := p5) (l := ((g over).drop kn).take tk) (l2 := (g over).take kn ++ [x] ++ (g over).drop (kn + tk)) hx ho hp h5p5 hpp5 k5
    (by rw [← c1]; exact k13 _ _ (k712 _ _ (k7 _ _ e6 dp.symm)) dp.symm)
    (by rw [k13 _ _ e12 hdp5.symm, c2, c3]; simp)
    (by
      rw [e13]
      congr 2
      refine List.map_congr_left fun m _ => ?_
      by_cases q1 : m = over
      · simp only [if_pos q1]
      · by_cases q2 : m = x
        · simp only [if_neg q1, if_pos q2]
        · simp only [if_neg q1, if_neg q2])
  obtain ⟨g', f', w', _⟩ := w5.step hx ho (by omega) kd
  exact q H13 g' _ f' _ _ _ _ (fun b o e n1 n2 => k5 _ _ (k05.keep _ _ e n1) n2) hd13 w'

def sp_l_wood (K : PySem.W.Frag) : Sp := fun vs H Q _ => ∃ (a ns : Addr) (zs : List Str), vs = [.ref a, .ref ns] ∧ DeckAt H a ∧ SqL K H ns (zs.map V.str) ∧ ns ≠ a ∧ zs.Nodup ∧ (∀ z ∈ zs, IsName z) ∧ zs.length ≤ 100 ∧
  ∀ (p : Addr) (H' : Hp) (f : Fo), Dk a H H' → WoodAt K H' p f → f.nm.Perm zs → Q (.ref p) H'
theorem len_l_wood (vs : List V) (H : Hp) (Q : VK) (E : XK) (h : sp_l_wood K vs H Q E) : vs.length = 2 := by
  obtain ⟨_, _, _, rfl, _⟩ := h
  rfl
theorem IsName.ne {z : Str} (h : IsName z) : z ≠ ("" : Str) := fun e => by
  have h1 := h.one
  rw [e] at h1
  exact absurd h1 (by decide +kernel)
theorem SqL.keep {H H' : Hp} {a b : Addr} {xs : List V} (h : SqL K H a xs) (hab : a ≠ b) (k : ∀ c o, H c = some o → c ≠ b → H' c = some o) : SqL K H' a xs := by
  rcases h with (h | ⟨o, h⟩) | h
  · exact .inl (.inl (k _ _ h hab))
  · exact .inl (.inr ⟨o, k _ _ h hab⟩)
  · exact .inr h
theorem kids_len {H : Hp} {d : Addr} {ks : List Str} {g : Str → List Str} {at_ : Str → Addr} {f : Fo} (w : Woody K H d ks g at_ f) : ∀ n ∈ ("" : Str) :: ks, (g n).length ≤ ks.length := by
  have hp := w.perm.length_eq
  intro n hn
  rcases List.mem_cons.mp hn with e | hn
  · rw [e, w.top]; have := tops_len f; omega
  · have hf : n ∈ f.nm := w.perm.mem_iff.mpr hn
    have := rep_len w.rep hf
    omega
where
  rep_len {g : Str → List Str} : ∀ {f : Fo} {n : Str}, f.Rep g → n ∈ f.nm → (g n).length ≤ f.nm.length
    | .nil, _, _, h => by simp [Fo.nm] at h
    | .cons m ks r, n, hr, h => by
      rcases List.mem_cons.mp (show n ∈ m :: (ks.nm ++ r.nm) from h) with e | h
      · rw [e, hr.1]; have := tops_len ks; simp only [Fo.nm, List.length_cons, List.length_append]; omega
      · rcases List.mem_append.mp h with h | h
        · have := rep_len hr.2.1 h; simp only [Fo.nm, List.length_cons, List.length_append]; omega
        · have := rep_len hr.2.2 h; simp only [Fo.nm, List.length_cons, List.length_append]; omega
theorem pure_l_wood (vs : List V) (H : Hp) (Q : VK) (E : XK) (h : sp_l_wood K vs H Q E) : t_l_wood K { nx := fun _ H' => Q .non H', rt := Q } (startN 8 vs) H := by
  obtain ⟨a, ns, zs, rfl, hd, hs, hna, nd, hnm, hl, q⟩ := h
  show t_l_wood K _ [some (.ref a), some (.ref ns), none, none, none, none, none, none] H
  unfold t_l_wood
  walk_at "rd"
  intro d hdn
  generalize hG : upd H d _ = H1
  obtain ⟨k1, e1⟩ := gen_new hdn hG
  clear hG
  refine ⟨Nat.zero_le _, fun l hln => ?_⟩
  generalize hG : upd H1 l _ = H2
  obtain ⟨k2, e2⟩ := gen_new hln hG
  clear hG
  refine ⟨k2 _ _ e1, [((Sum.inr ("" : Str) : Key), .ref l)], rfl, by show 1 ≤ 15; decide, ?_⟩
  generalize hG : upd H2 d _ = H3
  obtain ⟨k3, e3⟩ := gen_chg hG
  clear hG
  have hdl : d ≠ l := ne_of_none e1 hln
  have hda : d ≠ a := deck_ne hd hdn
  have k03 : ∀ b o, H b = some o → b ≠ a → H3 b = some o := fun b o e nb => k3 _ _ (k2 _ _ (k1 _ _ e)) (ne_of_none e hdn)
  obtain ⟨x0, y0, z0, da⟩ := hd
  have hd : DeckAt H a := ⟨x0, y0, z0, da⟩
  have d3 : DeckAt H3 a := ⟨x0, y0, z0, k3 _ _ (k2 _ _ (k1 _ _ da)) hda.symm⟩
  have kk : Dk a H H3 := ⟨k03, d3⟩
  walk_at "rd"
  have hs3 : SqL K H3 ns (zs.map V.str) := SqL.keep hs hna k03
  refine ⟨⟨_, hs3⟩, ?_⟩
  refine fb_list (xs := zs.map V.str) (fun i σ H4 => Dk a H H4 ∧ ∃ g at_ f y3 y4 y5 y6 y7, Woody K H4 d (zs.take i) g at_ f ∧ σ = [some (.ref a), some (.ref ns), some (.ref d), y3, y4, y5, y6, y7]) ?_ ?_ ?_ ?_
  · refine ⟨kk, fun _ => [], fun _ => l, .nil, _, _, _, _, _, ⟨⟨?_, ?_, ?_, ?_⟩, rfl, trivial, List.Perm.refl _, by simp⟩, rfl⟩
    · rw [e3]; rfl
    · intro n hn
      have e := List.mem_singleton.mp hn
      exact k3 _ _ e2 hdl.symm
    · intro n hn m hm _
      rw [List.mem_singleton.mp hn, List.mem_singleton.mp hm]
    · simp
  · rintro i σ H4 _ ⟨k4, _⟩
    exact SqL.keep hs hna k4.keep
  · rintro i x σ H4 hx ⟨k4, g, at_, f, y3, y4, y5, y6, y7, w, rfl⟩
    obtain ⟨z, hz, rfl⟩ : ∃ z, zs[i]? = some z ∧ x = .str z := by
      rw [List.getElem?_map] at hx
      cases e : zs[i]? with
      | none => rw [e] at hx; cases hx
      | some z => rw [e] at hx; exact ⟨z, rfl, (Option.some.inj hx).symm⟩
    have hzi : z ∈ zs := List.mem_of_getElem? hz
    have hi : i < zs.length := (List.getElem?_eq_some_iff.mp hz).1
    walk_at "rd"
    have hnew : z ∉ ("" : Str) :: zs.take i := by
      intro h
      rcases List.mem_cons.mp h with e | h
      · exact (hnm z hzi).ne e
      · obtain ⟨j, hj, e⟩ := List.mem_take_iff_getElem.mp h
        obtain ⟨_, e2⟩ := List.getElem?_eq_some_iff.mp hz
        have := (List.getElem_inj nd).mp (e.trans e2.symm)
        omega
    have hkl := kids_len w
    have htl : (zs.take i).length ≤ 100 := by rw [List.length_take]; omega
    refine wood_b1 k4.deck hda w hnew (by omega) (fun n hn => by have := hkl n hn; omega) fun H5 g' at' f' y4 y5 y6 y7 k5 d5 w5 => ?_
    refine ⟨⟨fun b o e nb => k5 _ _ (k4.keep _ _ e nb) nb (ne_of_none e hdn), d5⟩, g', at', f', _, _, _, _, _, ?_, rfl⟩
    rw [List.take_add_one, hz]
    exact w5
  · rintro σ H4 ⟨k4, g, at_, f, y3, y4, y5, y6, y7, w, rfl⟩
    rw [List.length_map, List.take_length] at w
    walk_at "rd"
    have hpl := w.perm.length_eq
    refine ⟨d, ("" : Str), _, g, at_, f, rfl, w.kids, List.mem_cons_self .., w.top, w.rep, fun x hx => List.mem_cons_of_mem _ (w.perm.mem_iff.mp hx), by have := Fo.dp_le f; show f.dp ≤ 120; omega, by omega, fun p H5 k5 hw => ?_⟩
    obtain ⟨x1, y1, z1, da4⟩ := k4.deck
    exact q p H5 f ⟨fun b o e nb => k5 _ _ (k4.keep _ _ e nb), x1, y1, z1, k5 _ _ da4⟩ hw w.perm
end
end Tw
set_option Elab.async false
set_option linter.all false
set_option maxRecDepth 100000
set_option maxHeartbeats 4000000
namespace Tw
open PySem PySem.Spec PyProof.Rows L2 TL
section
variable {K : PySem.W.Frag} {σ : L2.St} {H : Hp} {Q : VK} {td : TE} {D : Ends} {t : TS}
theorem o_lock : tLock t D σ H = ∃ d u, H d = some u ∧ Mut (some u) ∧ ∀ od, t ⟨fun σ' H' => H' d = some (.frz od u) ∧ D.nx σ' (upd H' d u), fun v H' => H' d = some (.frz od u) ∧ D.rt v (upd H' d u), fun σ' H' => H' d = some (.frz od u) ∧ D.bk σ' (upd H' d u), fun σ' H' => H' d = some (.frz od u) ∧ D.ct σ' (upd H' d u)⟩ σ (upd H d (.frz od u)) := rfl
theorem o_keysM {R : It → Hp → Prop} : iKeysM td σ H R = td σ H fun x H1 => ∃ d o kvs, x = .ref d ∧ H1 d = some (.frz o (.dK kvs)) ∧ R (Itk d o kvs) H1 := rfl
theorem o_gtup {n : Nat} {t : TGs} {v : V} {Q : L2.St → Hp → Prop} : gTup K n t v σ H Q = ∃ a xs, v = .ref a ∧ SqT K H a xs ∧ xs.length = n ∧ t xs σ H Q := rfl
theorem o_gcons {t : TG} {u : TGs} {vs : List V} {Q : L2.St → Hp → Prop} : gCons t u vs σ H Q = ∃ v r, vs = v :: r ∧ t v σ H fun σ' H' => u r σ' H' Q := rfl
theorem o_gnil {vs : List V} {Q : L2.St → Hp → Prop} : gNil vs σ H Q = (vs = [] ∧ Q σ H) := rfl
theorem o_catA {x y : V} : rCatA K x y H Q = ∃ a b xs ys, x = .ref a ∧ y = .ref b ∧ SqT K H a xs ∧ SqT K H b ys ∧ xs.length + ys.length ≤ sizeLine ∧ (xs = [] → Q (.ref b) H) ∧ (xs ≠ [] → ys = [] → Q (.ref a) H) ∧ (xs ≠ [] → ys ≠ [] → ∀ p, H p = none → Q (.ref p) (upd H p (.tup (xs ++ ys)))) := rfl
end
local macro_rules | `(tactic| walk_at "rd") => `(tactic| try simp only [o_op, o_un, o_var, o_c, o_cb, o_call, o_cons, o_nil, o_tup, o_lst, o_I0, o_I, o_int1, o_intb, o_abs, o_test, o_b, o_not, o_and, o_or, o_andV, o_orV, o_notV, o_ifE, o_isN, o_notN, o_eq, o_ne, o_seq, o_next, o_asg, o_name, o_sub, o_par, o_par3, o_drop, o_ret, o_retN, o_ifS, o_sl, o_noPart, o_part, o_bm, o_bm0, o_m0, o_m1, o_dget, o_dput, o_din, o_dnotin, o_listKeys, e_bl, e_int, e_str, e_some, e_two, e_three, o_for, o_lc, o_iList, o_iTup, o_iRng1, e_int1, e_ref, o_yes, o_wipe0, o_wipe1, o_disp, o_dnew, o_pairs0, o_pairs1, o_lock, o_keysM, o_gtup, o_gcons, o_gnil, o_catA, true_and, if_pos, List.getElem?_cons_zero, List.getElem?_cons_succ, List.set_cons_zero, List.set_cons_succ, List.append_nil])
section
variable {H H1 : Hp} {d : Addr} {ks : List Str} {g : Str → List Str} {at_ : Str → Addr}
/-- a name put into the list of over, where it stands; a new list for it -/
theorem Kids.ins (k : Kids H d ks g at_) {x over : Str} {p : Addr} {kk : Nat} (hx : x ∉ ks) (ho : over ∈ ks) (hp : H p = none)
    (h : ∀ n ∈ ks, n ≠ over → H1 (at_ n) = some (.lst ((g n).map V.str))) (h1 : H1 p = some (.lst [])) (h2 : H1 (at_ over) = some (.lst (((g over).take kk ++ [x] ++ (g over).drop kk).map V.str))) (hd : H1 d = some (.dK (kvs (ks ++ [x]) fun n => .ref (if n = over then at_ over else if n = x then p else at_ n)))) :
    Kids H1 d (ks ++ [x]) (fun n => if n = x then ((g over).drop kk).take 0 else if n = over then (g over).take kk ++ [x] ++ (g over).drop (kk + 0) else g n) (fun n => if n = over then at_ over else if n = x then p else at_ n) := by
  have hxo : x ≠ over := fun e => hx (e ▸ ho)
  have no : ∀ n ∈ ks, at_ n ≠ p := fun n hn e => by have := k.lists n hn; rw [e, hp] at this; cases this
  have hdn : ∀ n ∈ ks, at_ n ≠ d := fun n hn e => by have := k.lists n hn; rw [e, k.dict] at this; cases this
  have old : ∀ n ∈ ks ++ [x], n ≠ x → n ∈ ks := fun n hn z => by
    rcases List.mem_append.mp hn with y | y
    · exact y
    · exact absurd (List.mem_singleton.mp y) z
  refine ⟨hd, fun n hn => ?_, fun n hn m hm e => ?_, nodup_snoc k.nd hx⟩
  · show H1 (if n = over then at_ over else if n = x then p else at_ n) = some (.lst ((if n = x then _ else if n = over then _ else g n).map V.str))
    by_cases e1 : n = over
    · have e2 : ¬ n = x := fun z => hxo (z.symm.trans e1)
      rw [if_pos e1, if_neg e2, if_pos e1]; exact h2
    · by_cases e2 : n = x
      · rw [if_neg e1, if_pos e2, if_pos e2]; simpa using h1
      · rw [if_neg e1, if_neg e2, if_neg e2, if_neg e1]
        have hn' := old n hn e2
        exact h n hn' e1
  · have e : (if n = over then at_ over else if n = x then p else at_ n) = (if m = over then at_ over else if m = x then p else at_ m) := e
    by_cases a1 : n = over
    · rw [if_pos a1] at e
      by_cases b1 : m = over
      · rw [a1, b1]
      · rw [if_neg b1] at e
        by_cases b2 : m = x
        · rw [if_pos b2] at e; exact absurd e (no over ho)
        · rw [if_neg b2] at e; exact (a1.trans (k.inj over ho m (old m hm b2) e))
    · rw [if_neg a1] at e
      by_cases a2 : n = x
      · rw [if_pos a2] at e
        by_cases b1 : m = over
        · rw [if_pos b1] at e; exact absurd e.symm (no over ho)
        · rw [if_neg b1] at e
          by_cases b2 : m = x
          · rw [a2, b2]
          · rw [if_neg b2] at e; exact absurd e.symm (no m (old m hm b2))
      · rw [if_neg a2] at e
        by_cases b1 : m = over
        · rw [if_pos b1] at e; exact (k.inj n (old n hn a2) over ho e).trans b1.symm
        · rw [if_neg b1] at e
          by_cases b2 : m = x
          · rw [if_pos b2] at e; exact absurd e (no n (old n hn a2))
          · rw [if_neg b2] at e; exact k.inj n (old n hn a2) m (old m hm b2) e
end
section
variable {K : PySem.W.Frag}
/-- what the loop of tall_wood keeps: the kids, the depths -/
structure Tall (K : PySem.W.Frag) (H : Hp) (d dd : Addr) (tall : Int) (ks : List Str) (g : Str → List Str) (at_ : Str → Addr) (f : Fo) (e : Str → Nat) : Prop where
  w : Woody K H d ks g at_ f
  deep : H dd = some (.dK (kvs (("" : Str) :: ks) fun n => .int (e n)))
  dep : f.Dep e 0
  e0 : e ("" : Str) = 0
  le : ∀ n ∈ ("" : Str) :: ks, (e n : Int) ≤ tall
theorem Fo.Dep.le {e : Str → Nat} : ∀ {f : Fo} {l : Nat}, Fo.Dep e l f → ∀ n ∈ f.nm, e n ≤ l + f.dp
  | .nil, _, _, n, h => by cases h
  | .cons m ks r, l, ⟨h1, h2, h3⟩, n, h => by
    rcases List.mem_cons.mp h with rfl | h
    · simp only [Fo.dp]; omega
    · rcases List.mem_append.mp h with h | h
      · have := Fo.Dep.le h2 n h; simp only [Fo.dp]; omega
      · have := Fo.Dep.le h3 n h; simp only [Fo.dp]; omega
theorem o_ixLq {p : Addr} {xs : List V} {i : Int} {v : V} {H : Hp} {Q : VK} (h : SqL K H p xs) (e : atI xs i = some v) (q : Q v H) : rIxL K (.ref p) (.int i) H Q := ⟨p, xs, i, v, rfl, rfl, h, e, q⟩
end
end Tw
set_option Elab.async false
set_option linter.all false
set_option maxRecDepth 100000
set_option maxHeartbeats 4000000
namespace Tw
open PySem PySem.Spec PyProof.Rows L2 TL
local macro_rules | `(tactic| walk_at "rd") => `(tactic| try simp only [o_op, o_un, o_var, o_c, o_cb, o_call, o_cons, o_nil, o_tup, o_lst, o_I0, o_I, o_int1, o_intb, o_abs, o_test, o_b, o_not, o_and, o_or, o_andV, o_orV, o_notV, o_ifE, o_isN, o_notN, o_eq, o_ne, o_seq, o_next, o_asg, o_name, o_sub, o_par, o_par3, o_drop, o_ret, o_retN, o_ifS, o_sl, o_noPart, o_part, o_bm, o_bm0, o_m0, o_m1, o_dget, o_dput, o_din, o_dnotin, o_listKeys, e_bl, e_int, e_str, e_some, e_two, e_three, o_for, o_lc, o_iList, o_iTup, o_iRng1, e_int1, e_ref, o_yes, o_wipe0, o_wipe1, o_disp, o_dnew, o_pairs0, o_pairs1, o_lock, o_keysM, o_gtup, o_gcons, o_gnil, true_and, if_pos, List.getElem?_cons_zero, List.getElem?_cons_succ, List.set_cons_zero, List.set_cons_succ, List.append_nil])
/-- a wood as the laws draw it -/
structure Good (f : Fo) : Prop where
  nd : f.nm.Nodup
  nms : ∀ z ∈ f.nm, IsName z
  sz : f.nm.length ≤ 120
  dp : f.dp ≤ 40
section
variable {K : PySem.W.Frag}
/-! ### the law's row -/
theorem Rp.at {H : Hp} : ∀ {i : Nat} {vs : List V} {f : Fo} {x : V}, Rp K H vs f → vs[i]? = some x → ∃ (t k : Addr) (n : Str) (kvs : List V) (ks r : Fo), x = .ref t ∧ f.fdrop i = .cons n ks r ∧ SqT K H t [.str n, .ref k] ∧ SqT K H k kvs ∧ Rp K H kvs ks
  | _, _, _, _, .nil, h => by simp at h
  | 0, _, _, x, .cons (t := t) (k := k) (n := n) (kvs := kvs) (ks := ks) (r := r) a b c _, h => by
    have e : V.ref t = x := by simpa using h
    exact ⟨t, k, n, kvs, ks, r, e.symm, rfl, a, b, c⟩
  | i + 1, _, _, x, .cons _ _ _ d, h => Rp.at (i := i) d (by simpa using h)
theorem row_len : ∀ f : Fo, f.row.length = 2 * f.nm.length
  | .nil => rfl
  | .cons n ks r => by simp only [Fo.row, Fo.nm, List.length_cons, List.length_append, row_len ks, row_len r]; omega
end
end Tw
set_option Elab.async false
set_option linter.all false
set_option maxRecDepth 100000
set_option maxHeartbeats 4000000
namespace PySem.AutoSeq1
open Sem (wp)
open Builtin
set_option maxRecDepth 8000 in
theorem tw_extend_tup (l : Addr) (items : Array Value) (n : Nat) (b : Addr) (items2 : Array Value) (n2 : Nat) (dd : Option Addr) (sl : Array (Option Value)) (hs0 : ¬(!items.isEmpty && Builtin.List.listTooLong (items.size + items2.size)) = true) (hs1 : items.size ≤ sizeLine) (hs2 : items.size + items2.size ≤ sizeLine + 1) :
    Meets (Builtin.«list.extend» ⟨[.ref l, .ref b], []⟩) (fun _ R s => s.heap.get? l = some { cls := .type "list", dict := none, data := .seq items n, slots := #[] } ∧ s.heap.get? b = some { cls := .type "tuple", dict := dd, data := .seq items2 n2, slots := sl } ∧ R (.ok (.ret Value.none)) { s with heap := s.heap.update l (Obj.mapSeq fun x => x ++ items2), toks := s.toks }) :=
  .of_wp fun prog w A R s h => by
    obtain ⟨hp, g, d, tk, os⟩ := s; obtain ⟨hl, hb, h⟩ := h; have f1 := idx_int; have f2 := sub_tuple_tuple; have f3 := sub_list_list; have f4 := sub_tuple_list; have f5 := sub_list_tuple;
    have hz' : (items ++ items2).size ≤ sizeLine + 1 := by rw [Array.size_append]; exact hs2
    wp_walk using (wpAny_updateSeq hl rfl (hz := hs1) (_hz' := hz')), wpAny_loadPart' hl, wpAny_loadPart' hb; exact ⟨_, rfl, h⟩
end PySem.AutoSeq1
namespace Tw
open PySem PySem.Spec PyProof.Rows HT L2
/-- xs.extend(t), t a tuple -/
def rExtendT (K : PySem.W.Frag) : V → List V → Hp → VK → Prop := fun x vs H Q => ∃ l b xs zs, x = .ref l ∧ vs = [.ref b] ∧ H l = some (.lst xs) ∧ SqT K H b zs ∧ xs.length + zs.length ≤ sizeLine ∧ Q .non (upd H l (.lst (xs ++ zs)))
section
variable {X : Cx}
theorem mt_extendT : MtM X "list.extend" (rExtendT X.K) := by
  intro pins s σ H x vs v us Q I rx rv h
  obtain ⟨l, b, xs, zs, rfl, rfl, hH, hB, hz, q⟩ := h
  cases rx
  obtain ⟨u, rfl, ru⟩ := rv.one
  cases ru
  obtain ⟨z, its, n, r, hl, e⟩ := I.lstM hH
  obtain ⟨its2, r2, ht2, hl2⟩ := I.tuple hB
  obtain ⟨⟨cls2, dd2, data2, sl2⟩, e2, hc2, n2, hd2⟩ := id ht2
  simp only at hc2 hd2
  subst hc2 hd2
  have hll := r.length
  have hll2 := r2.length
  have hsz : its.toArray.size + its2.toArray.size ≤ sizeLine := by rw [List.size_toArray, List.size_toArray]; omega
  have hlong : ¬ (!its.toArray.isEmpty && Builtin.List.listTooLong (its.toArray.size + its2.toArray.size)) = true := by
    rw [notLongL hsz, Bool.and_false]
    exact Bool.false_ne_true
  refine call_meets F.slot_list_extend ⟨_, e, rfl⟩ F.entry_list_extend (F.args_list_extend_2 _ _)
    (AutoSeq1.tw_extend_tup l its.toArray n b its2.toArray n2 dd2 sl2 hlong (by rw [List.size_toArray]; omega) (by omega)) ⟨e, e2, ?_⟩
  refine ⟨.non, _, I.lset (its' := its ++ its2) hH e (by simp) (r.append r2) ?_, rfl, q⟩
  rw [List.length_append]
  omega
end
end Tw
namespace Tw
open PySem PySem.Spec PyProof.Rows L2
section
open Sem (wp)
open AutoSeq1 (wpAny_loadPart')
end
/-- enumerate of a tuple: a new pair a turn -/
def IteT (K : PySem.W.Frag) (a : Addr) : It :=
  ⟨fun i H => ∃ (xs : List V) (x : V), SqT K H a xs ∧ xs[i]? = some x, fun i H v H' => ∃ T x, v = .ref T ∧ H T = none ∧ H' = upd H T (.tup [.int (i : Nat), x]) ∧ ∀ xs, SqT K H a xs → xs[i]? = some x, fun i H => ∃ xs : List V, SqT K H a xs ∧ xs.length = i⟩
end Tw
namespace Tw
open PySem PySem.Spec PyProof.Rows L2 HT
section
variable {X : Cx}
end
def iEnumT (K : PySem.W.Frag) (ta : TA) : TI := fun σ H R => ta σ H fun vs H1 => ∃ a xs, vs = [.ref a] ∧ SqT K H1 a xs ∧ R (IteT K a) H1
theorem walk_enumT {K : PySem.W.Frag} {a : Addr} {xs : List V} : Walk (IteT K a) xs.length (fun H => SqT K H a xs) (YPair (fun i => some (.int (i : Nat))) (fun i => xs[i]?)) where
  goes := fun i H hi h => ⟨xs, xs[i], h, List.getElem?_eq_getElem hi⟩
  stops := fun H h => ⟨xs, h, rfl⟩
  yields := fun i H v H' hi h ⟨T, x, ev, hT, eH, hx⟩ => ⟨T, _, x, ev, hT, eH, rfl, hx xs h⟩
/-! ### xs[a:] = ys -/
section
variable {prog : Program} {w : World} {A : Around} {E : Value → Shared → Prop} {s : Shared}
theorem bounds_from {a n : Nat} (h : a ≤ n) : sliceBounds (some (a : Int)) none none n = ((a : Int), (n : Int), 1) := by
  simp only [sliceBounds, Option.getD_none]
  have h1 : ¬ ((a : Int) < 0) := by omega
  simp only [h1, if_false, show (1 : Int) > 0 by decide, if_true]
  congr 1
  omega
theorem setItem_from {l b sl : Addr} {items new : Array Value} {n n2 : Nat} {vl vu : Value} {a : Nat} {Q : Unit → Shared → Prop}
    (e : s.heap.get? l = some { cls := .type "list", data := .seq items n }) (e2 : s.heap.get? b = some { cls := .type "list", data := .seq new n2 }) (hne : l ≠ b)
    (hs : s.heap.IsSliceOf sl vl vu .none) (pl : IsPart vl (some (a : Int))) (pu : IsPart vu none) (hac : a ≤ items.size)
    (hsz : items.size + new.size ≤ sizeLine) (h : Q () { s with heap := s.heap.update l (Obj.mapSeq fun xs => xs.extract 0 a ++ new ++ xs.extract items.size xs.size) }) :
    wpAny (model prog w) A (setItem (.ref l) (.ref sl) (.ref b)) Q E s := by
  have hl : s.heap.IsList l items := PySem.IsL.isList e
  have hb : s.heap.IsList b new := PySem.IsL.isList e2
  obtain ⟨os, hos, hcs, hds⟩ := id hs
  have hTs : s.TypeIs (.ref sl) "slice" := ⟨os, hos, hcs⟩
  have hstep : ¬ ((rawPart none == rawInt 0) = true) := Bool.false_ne_true
  have hsame : Builtin.List.listSameRef (.ref l) (.ref b) = false := by
    unfold Builtin.List.listSameRef
    exact beq_eq_false_iff_ne.mpr hne
  have hmax : (max (a : Int) (items.size : Int)).toNat = items.size := by omega
  have hz' : ((fun xs : Array Value => xs.extract 0 a ++ new ++ xs.extract items.size xs.size) items).size ≤ sizeLine + 1 := by
    simp only [Array.size_append, Array.size_extract]
    omega
  unfold setItem
  try with_reducible refine wpAny_holding ?_
  first | refine wpAny_bind (wpAny_pure ?_) | skip
  refine wpAny_bind (wpAny_sequenceKey hl.typeIs (by decide) ?_)
  refine wpAny_bind (wpAny_callSpecial?_slot (name := Str.ofString "__setitem__") hl.typeIs slot_list_setitem
    (wpAny_call_entry slot_list_setitem hl.typeIs entry_list_setitem ?_ (args_list_setitem _ _ _)))
  show wpAny _ _ (Builtin.List.listSubscript? (.ref sl) >>= _) _ _ s
  refine wpAny_bind ?_
  unfold Builtin.List.listSubscript?
  refine wpAny_bind (wpAny_specialOf hTs slice_no_index ?_)
  simp only [Option.isNone_none, if_true]
  refine wpAny_pure ?_
  show wpAny _ _ (typeOf (.ref sl) >>= _) _ _ s
  refine wpAny_bind (wpAny_typeOf hTs ?_)
  first
    | rw [if_neg (by decide)]
    | refine PySem.W.KFB.if_not (by decide) ?_
  rw [listSliceParts_eq]
  refine wpAny_bind (wpAny_bind (wpAny_field hos hds (x := .none) rfl (wpAny_bind (wpAny_listPart .none ?_))))
  rw [if_neg hstep]
  refine wpAny_bind (wpAny_field hos hds (x := vl) rfl (wpAny_bind (wpAny_listPart pl ?_)))
  refine wpAny_bind (wpAny_field hos hds (x := vu) rfl (wpAny_bind (wpAny_listPart pu (wpAny_pure ?_))))
  first
    | simp only [hsame, Bool.false_eq_true, if_false]
    | refine PySem.W.KFB.if_not hsame ?_
    | (dsimp only
       rw [if_neg (by rw [hsame]; exact Bool.false_ne_true)])
  refine wpAny_bind (m := Builtin.List.listAllItems (.ref b) "must assign iterable to extended slice") ?_
  unfold Builtin.List.listAllItems
  refine wpAny_bind (wpAny_typeOf hb.typeIs ?_)
  first
    | refine PySem.W.KFB.if_so (by decide) ?_
    | rw [if_pos (by decide)]
    | simp only [beq_self_eq_true, Bool.true_or, if_true]
  unfold Builtin.List.listItems
  refine wpAny_bind (wpAny_seqItems e2 rfl (wpAny_pure ?_))
  refine wpAny_bind (wpAny_bind (wpAny_seqItems e rfl (wpAny_pure ?_)))
  refine wpAny_bind (wpAny_of_eq ((sliceIndices_raw (some (a : Int)) none none items.size (by simp)).trans (congrArg (pure : Int × Int × Int → Sem (Int × Int × Int)) (bounds_from hac))) ?_)
  show wpAny _ _ (if ((1 : Int) == 1) = true then _ else _) _ _ s
  rw [if_pos (by decide)]
  refine wpAny_bind (wpAny_rule ?_)
  first
    | simp only [notLongL hsz, Bool.false_eq_true, if_false]
    | refine PySem.W.KFB.if_not (notLongL hsz) ?_
  first | refine wpAny_bind (wpAny_pure ?_) | skip
  show wpAny _ _ (updateSeq l (fun xs => xs.extract 0 ((a : Int)).toNat ++ new ++ xs.extract (max (a : Int) (items.size : Int)).toNat xs.size) >>= _) _ _ s
  rw [hmax, Int.toNat_natCast]
  refine wpAny_bind (wpAny_updateSeq (hz := Nat.le_trans (Nat.le_add_right _ _) hsz) (_hz' := hz') e rfl ?_)
  refine wpAny_bind (wpAny_letGo ?_)
  first
    | exact wpAny_bind (wpAny_pure (wpAny_pure ⟨.none, rfl, wpAny_pure h⟩))
    | exact wpAny_pure ⟨.none, rfl, wpAny_pure h⟩
end
/-- o[a:] = v, o and v lists -/
def gFrom (to ti : TE) : TG := fun v σ H Q => to σ H fun o H1 => ti σ H1 fun i H2 => ∃ (l b : Addr) (xs ys : List V) (a : Int), o = .ref l ∧ i = .int a ∧ v = .ref b ∧ H2 l = some (.lst xs) ∧ H2 b = some (.lst ys) ∧ l ≠ b ∧ 0 ≤ a ∧ a ≤ xs.length ∧ xs.length + ys.length ≤ sizeLine ∧ Q σ (upd H2 l (.lst (xs.take a.toNat ++ ys)))
section
variable {X : Cx}
theorem pg_from {o lo : Expr} {to ti : TE} {p2 pos : Pos} (ho : PE X o to) (hi : PE X lo ti)
    (ha : ∀ v, assign (.Subscript o (.Slice (some lo) none none p2) pos) X.env v = (do
      let ov ← holding [v] (eval o X.env)
      let iv ← holding [v, ov] (eval (.Slice (some lo) none none p2) X.env)
      standAt pos
      holding [v, ov, iv] (setItem ov iv v)
      release [iv, v, ov] []) := by intro _; rfl) : PG X (.Subscript o (.Slice (some lo) none none p2) pos) (gFrom to ti) := by
  refine ⟨fun pins s σ H v u Q I r h => ?_⟩
  rw [ha]
  refine wpAny_bind (wpAny_holding (thn (ho.run pins s σ H _ I h) fun ov s1 ⟨x, H1, I1, r1, q1⟩ => ?_))
  refine wpAny_bind (wpAny_holding ?_)
  refine wpAny_Slice ?_
  rw [evalPart_some]
  refine thn (hi.run pins s1 σ H1 _ I1 q1) fun vl s2 ⟨y, H2, I2, r2, q2⟩ => ?_
  obtain ⟨l, b, xs, ys, a, ex, ey, ev, hl, hb, hne, h0, hle, hz, q⟩ := q2
  subst ex ey ev
  obtain ⟨t, rfl⟩ := r2
  cases r1
  cases r
  obtain ⟨a', rfl⟩ := Int.eq_ofNat_of_zero_le h0
  refine thn (po_none.run pins s2 σ H2 (fun o H3 => o = none ∧ H3 = H2) I2 ⟨rfl, rfl⟩) fun vu s3 ⟨u, H3, I3, pu, eu, e3⟩ => ?_
  subst eu e3
  rw [evalPart_none]
  refine wpAny_pure ?_
  refine wpAny_bind (wpAny_standAt (wpAny_bind (wpAny_holding ?_)))
  have I4 : Inv X pins σ H3 { s3 with heap := s3.heap.push { cls := .type "slice", data := .fields #[.int (a' : Int) t, vu, .none] } } := I3.kept (t' := s3.toks) fun b ob q => Heap.get?_push_of_some _ q
  obtain ⟨z, its, n, r, hlen, e⟩ := I4.lstM hl
  obtain ⟨z2, its2, n2, r2, hlen2, e2⟩ := I4.lstM hb
  refine setItem_from (a := a') e e2 hne (Heap.IsSliceOf.new _ _ _ _) (.int _ _) pu (by rw [List.size_toArray]; omega) (by rw [List.size_toArray, List.size_toArray]; omega) ?_
  refine wpAny_release ⟨σ, _, I4.lset (ys := xs.take a' ++ ys) (its' := its.take a' ++ its2) (t' := s3.toks) hl e ?_ (Vals.append (r.take _) r2) ?_, ?_⟩
  · have h3 := splice_eq its its2 a' its.length
    rw [List.drop_length, List.append_nil] at h3
    simpa using h3
  · rw [List.length_append, List.length_take]; omega
  · simpa using q
end
end Tw
set_option Elab.async false
set_option linter.all false
set_option maxRecDepth 100000
set_option maxHeartbeats 4000000
/-! isinstance with one built-in type by name; == and != of nested data up to a hundred and fifty deep. -/
namespace Tw
open PySem PySem.Spec PyProof.Rows L2
section
variable {X : Cx} {k : Nat} {p pos p2 : Pos} {e : Expr} {t : TE}
abbrev rIsiB (K : PySem.W.Frag) (T : String) : List V → Hp → VK → Prop := fun xs H Q => ∃ (x : V) (t0 : String) (b : Bool), xs = [x, .ty T] ∧ TyX K H x (.type t0) ∧ kitB t0 T = some b ∧ Q (.bl b) H
abbrev tIsi (K : PySem.W.Frag) (T : String) (t : TE) : TE := tCB (rIsiB K T) (tCons t (tCons (tC (.ty T)) tNil))
theorem call_isiB {T : String} : CallR X (.builtin "isinstance") (rIsiB X.K T) := by
  intro pins s σ H xs us Q I r h
  obtain ⟨x, t0, b, rfl, ty, kb, q1⟩ := h
  exact call_isi pins s σ H _ us Q I r ⟨x, .ty T, .type t0, .type T, b, rfl, .ty T, ty, kit_ty kb, q1⟩
theorem pe_tyN {x : Str} {T : String} (hg : Gl X x) (hm : X.mg x = none) (hv : bootBuiltins x = some (.type T)) (hn : x ≠ "__name__" := by decide) (hdb : (x == ("__debug__" : Str)) = false := by decide) :
    PE X (.Name x p) (tC (.ty T)) := ⟨fun _ _ _ H _ I h => ld_blt I hg hm hv ⟨.ty T, H, I, rfl, h⟩ hn hdb⟩
theorem pe_isiB {x : Str} {T : String} (hm : X.mg "isinstance" = none) (hm2 : X.mg x = none) (he : PE X e t) (hg : Gl X "isinstance" := by rfl) (hg2 : Gl X x := by rfl) (hv : bootBuiltins x = some (.type T) := by decide +kernel)
    (hn : x ≠ "__name__" := by decide) (hdb : (x == ("__debug__" : Str)) = false := by decide)
    (hs : starEach [e, .Name x p2] X.env = (false, eval e X.env) :: starEach [.Name x p2] X.env := by rfl) (hpl : (backTo pos (starEach [.Name x p2] X.env)).any (·.1) = false := by rfl) :
    PE X (.Call (.Name "isinstance" p) [e, .Name x p2] [] pos) (tIsi X.K T t) :=
  pe_callB call_isiB hg hm (by decide +kernel) (pa_cons he (pa_cons (pe_tyN hg2 hm2 hv hn hdb) pa_nil) hs) (by decide) (by decide) hs hpl
abbrev rEqB (K : PySem.W.Frag) : R2 := fun x y H Q => ∃ d e, Dp K H x d ∧ Dp K H y e ∧ d.canLay0 = true ∧ e.canLay0 = true ∧ min d.depth e.depth ≤ 200 ∧ Q (.bl (PyData.eqv d e)) H
abbrev rNeB (K : PySem.W.Frag) : R2 := fun x y H Q => ∃ d e, Dp K H x d ∧ Dp K H y e ∧ d.canLay0 = true ∧ e.canLay0 = true ∧ min d.depth e.depth ≤ 200 ∧ Q (.bl (!PyData.eqv d e)) H
theorem op_neB (hr : Room k X.A) : OpR X (compareOp .NotEq) (rNeB X.K) := by
  intro pins s σ H x y v u Q I rx ry h
  obtain ⟨d, e, hd, he, sd, se, m, q⟩ := h
  obtain ⟨as, r1⟩ := Dp.reads I d x v hd rx
  obtain ⟨bs, r2⟩ := Dp.reads I e y u he ry
  exact SeqAt.compareNe_reads r1 r2 sd se (by have := hr.un; omega) ⟨.bl _, H, I, rfl, q⟩
end
end Tw
set_option Elab.async false
set_option linter.all false
set_option maxRecDepth 100000
set_option maxHeartbeats 4000000
/-! the program's names and ends -/
namespace Tw
open PySem PySem.Spec PyProof.Rows L2 TL
local macro_rules | `(tactic| walk_at "rd") => `(tactic| try simp only [o_op, o_un, o_var, o_c, o_cb, o_call, o_cons, o_nil, o_tup, o_lst, o_I0, o_I, o_int1, o_intb, o_abs, o_test, o_b, o_not, o_and, o_or, o_andV, o_orV, o_notV, o_ifE, o_isN, o_notN, o_eq, o_ne, o_seq, o_next, o_asg, o_name, o_sub, o_par, o_par3, o_drop, o_ret, o_retN, o_ifS, o_sl, o_noPart, o_part, o_bm, o_bm0, o_m0, o_m1, o_dget, o_dput, o_din, o_dnotin, o_listKeys, e_bl, e_int, e_str, e_some, e_two, e_three, o_for, o_lc, o_iList, o_iTup, o_iRng1, e_int1, e_ref, o_yes, o_wipe0, o_wipe1, o_disp, o_dnew, o_pairs0, o_pairs1, o_lock, o_keysM, o_gtup, o_gcons, o_gnil, true_and, if_pos, List.getElem?_cons_zero, List.getElem?_cons_succ, List.set_cons_zero, List.set_cons_succ, List.append_nil])
theorem str_ext {x y : Str} (h : x.cps.toList = y.cps.toList) : x = y := by
  cases x; cases y
  simp only [Str.mk.injEq]
  exact Array.toList_inj.mp h
def nameB (s : Str) : Bool := !decide (8 < (s.length : Int)) && (Txt.isascii s && (Txt.isalpha s && Txt.islower s))
theorem name_let : ∀ k : Fin 26, (decide (97 + k.val < 128) && (Unicode.isAlpha (97 + k.val) && (Unicode.isLower (97 + k.val) && !(Unicode.isUpper (97 + k.val) || Unicode.isTitle (97 + k.val))))) = true := by decide +kernel
theorem nameB_of {z : Str} (h : IsName z) : nameB z = true := by
  have hl : ∀ c ∈ z.cps.toList, (decide (c < 128) && (Unicode.isAlpha c && (Unicode.isLower c && !(Unicode.isUpper c || Unicode.isTitle c)))) = true := fun c hc => by
    have h1 := h.let_ c hc
    have h2 := name_let ⟨c - 97, by omega⟩
    have e : 97 + (c - 97) = c := by omega
    simp only [e] at h2
    exact h2
  simp only [Bool.and_eq_true, Bool.not_eq_true', Bool.or_eq_false_iff, decide_eq_true_eq] at hl
  have h8 := h.eight
  have h1 := h.one
  unfold nameB Txt.isascii Txt.isalpha Txt.islower
  simp only [Bool.and_eq_true, Bool.not_eq_true', decide_eq_true_eq, decide_eq_false_iff_not, ← Array.all_toList, ← Array.any_toList, List.all_eq_true, List.any_eq_false, List.any_eq_true, Bool.or_eq_true, not_or]
  refine ⟨by omega, fun c hc => (hl c hc).1, ⟨by omega, fun c hc => (hl c hc).2.1⟩, ?_, fun c hc => ?_⟩
  · have h3 : z.cps.toList ≠ [] := fun e => by rw [len_tl, e] at h1; simp at h1
    obtain ⟨c, r, e⟩ := List.exists_cons_of_ne_nil h3
    have hc : c ∈ z.cps.toList := by rw [e]; exact List.mem_cons_self ..
    exact ⟨c, hc, (hl c hc).2.2.1⟩
  · have := (hl c hc).2.2.2
    rw [this.1, this.2]; exact ⟨Bool.false_ne_true, Bool.false_ne_true⟩
/-- a value that is no string -/
def NoStr (K : PySem.W.Frag) (H : Hp) (x : V) : Prop := ∃ t0, TyX K H x (.type t0) ∧ kitB t0 "str" = some false
def sp_is_name (K : PySem.W.Frag) : Sp := fun vs H Q _ => ∃ x, vs = [x] ∧ ((∃ s : Str, x = .str s ∧ s.length ≤ sizeLine ∧ Q (.bl (nameB s)) H) ∨ (NoStr K H x ∧ Q (.bl false) H))
def t_is_name (K : PySem.W.Frag) : TS :=
  (tSeq (tIfS (tOr (tNot (tB (tIsi K "str" (tVar 0)))) (tTest (tOp (rI0 fun i j => .bl (decide (j < i))) (tCB rLenStr (tCons (tVar 0) tNil)) (tC (.int 8))))) (tRet (tC (.bl false))) tNext)
  (tRet (tAndV (tM0 (rTxtB Txt.isascii) (tVar 0)) (tAndV (tM0 (rTxtB Txt.isalpha) (tVar 0)) (tM0 (rTxtB Txt.islower) (tVar 0))))))
section
variable {K : PySem.W.Frag}
theorem len_is_name (vs : List V) (H : Hp) (Q : VK) (E : XK) (h : sp_is_name K vs H Q E) : vs.length = 1 := by
  obtain ⟨_, rfl, _⟩ := h; rfl
theorem o_isiS {s : Str} {H : Hp} {Q : VK} (q : Q (.bl true) H) : rIsiB K "str" [.str s, .ty "str"] H Q := ⟨_, "str", true, rfl, .base (.str s), by decide +kernel, q⟩
theorem o_isiN {x : V} {H : Hp} {Q : VK} (h : NoStr K H x) (q : Q (.bl false) H) : rIsiB K "str" [x, .ty "str"] H Q := by
  obtain ⟨t0, a, b⟩ := h
  exact ⟨_, t0, false, rfl, a, b, q⟩
theorem pure_is_name (vs : List V) (H : Hp) (Q : VK) (E : XK) (h : sp_is_name K vs H Q E) : t_is_name K { nx := fun _ H' => Q .non H', rt := Q } (startN 1 vs) H := by
  obtain ⟨x, rfl, h⟩ := h
  show t_is_name K _ [some x] H
  unfold t_is_name
  walk_at "rd"
  rcases h with ⟨s, rfl, hz, q⟩ | ⟨hn, q⟩
  · refine o_isiS ?_
    walk_at "rd"
    simp only [Bool.not_true, Bool.false_eq_true, if_false]
    refine ⟨s, rfl, hz, ?_⟩
    walk_at "rd"
    by_cases h8 : (8 : Int) < s.length
    · have e : nameB s = false := by unfold nameB; rw [decide_eq_true h8]; rfl
      rw [e] at q
      simpa [h8] using q
    · simp only [h8, decide_false, Bool.false_eq_true, if_false]
      have e : nameB s = (Txt.isascii s && (Txt.isalpha s && Txt.islower s)) := by unfold nameB; rw [decide_eq_false h8]; rfl
      rw [e] at q
      refine ⟨⟨s, rfl⟩, ?_⟩
      cases h1 : Txt.isascii s <;> cases h2 : Txt.isalpha s <;> rw [h1] at q <;> rw [h2] at q <;> first | exact q | exact ⟨⟨s, rfl⟩, q⟩ | exact ⟨⟨s, rfl⟩, ⟨s, rfl⟩, q⟩ | skip
  · refine o_isiN hn ?_
    walk_at "rd"
    simpa using q
theorem cut1 {s : Str} : (cutS s (some 1) none).cps.toList = s.cps.toList.drop 1 := by
  rw [tl_cut, show (some (1 : Int)) = some ((1 : Nat) : Int) from rfl, HT.sIx_none, HT.sIx_nat, len_tl]
  by_cases h : 1 ≤ s.cps.toList.length
  · rw [Nat.min_eq_left h, List.take_of_length_le]; rw [List.length_drop]; omega
  · have : s.cps.toList = [] := List.eq_nil_of_length_eq_zero (by omega)
    rw [this]; rfl
end
end Tw
set_option Elab.async false
set_option linter.all false
set_option maxRecDepth 100000
set_option maxHeartbeats 4000000
/-! rows, end by end -/
namespace Tw
open PySem PySem.Spec PyProof.Rows L2 TL
local macro_rules | `(tactic| walk_at "rd") => `(tactic| try simp only [o_op, o_un, o_var, o_c, o_cb, o_call, o_cons, o_nil, o_tup, o_lst, o_I0, o_I, o_int1, o_intb, o_abs, o_test, o_b, o_not, o_and, o_or, o_andV, o_orV, o_notV, o_ifE, o_isN, o_notN, o_eq, o_ne, o_seq, o_next, o_asg, o_name, o_sub, o_par, o_par3, o_drop, o_ret, o_retN, o_ifS, o_sl, o_noPart, o_part, o_bm, o_bm0, o_m0, o_m1, o_dget, o_dput, o_din, o_dnotin, o_listKeys, e_bl, e_int, e_str, e_some, e_two, e_three, o_for, o_lc, o_iList, o_iTup, o_iRng1, e_int1, e_ref, o_yes, o_wipe0, o_wipe1, o_disp, o_dnew, o_pairs0, o_pairs1, o_lock, o_keysM, o_gtup, o_gcons, o_gnil, true_and, if_pos, List.getElem?_cons_zero, List.getElem?_cons_succ, List.set_cons_zero, List.set_cons_succ, List.append_nil])
/-- an end: is it the first one, of which node -/
abbrev En := Bool × Str
def en (e : En) : Str := if e.1 then Fo.plus e.2 else Fo.minus e.2
namespace Fo
def app : Fo → Fo → Fo
  | nil, g => g
  | cons n ks r, g => cons n ks (app r g)
def erow : Fo → List En
  | nil => []
  | cons n ks r => (true, n) :: (erow ks ++ (false, n) :: erow r)
theorem row_erow : ∀ f : Fo, f.row = f.erow.map en
  | nil => rfl
  | cons n ks r => by simp only [row, erow, List.map_cons, List.map_append, row_erow ks, row_erow r]; rfl
theorem app_nil : ∀ f : Fo, f.app nil = f
  | nil => rfl
  | cons n ks r => by rw [app, app_nil r]
theorem app_assoc : ∀ f g h : Fo, (f.app g).app h = f.app (g.app h)
  | nil, _, _ => rfl
  | cons n ks r, g, h => by simp only [app, app_assoc r g h]
end Fo
/-- the names that begin in these ends -/
def pls (es : List En) : List Str := (es.filter (·.1)).map (·.2)
theorem pls_row : ∀ f : Fo, pls f.erow = f.nm
  | .nil => rfl
  | .cons n ks r => by
    show pls ((true, n) :: (ks.erow ++ (false, n) :: r.erow)) = _
    have h : pls ((true, n) :: (ks.erow ++ (false, n) :: r.erow)) = n :: (pls ks.erow ++ pls r.erow) := by simp [pls]
    rw [h, pls_row ks, pls_row r]; rfl
theorem erow_nm : ∀ (f : Fo) (e : En), e ∈ f.erow → e.2 ∈ f.nm
  | .cons n ks r, e, h => by
    rcases List.mem_cons.mp h with h | h
    · rw [h]; exact List.mem_cons_self ..
    · rcases List.mem_append.mp h with h | h
      · exact List.mem_cons_of_mem _ (List.mem_append_left _ (erow_nm ks e h))
      · rcases List.mem_cons.mp h with h | h
        · rw [h]; exact List.mem_cons_self ..
        · exact List.mem_cons_of_mem _ (List.mem_append_right _ (erow_nm r e h))
/-- these ends lead from what is open (with what is done ahead of it) and what is done since to the whole F, with at most B open -/
def Runs (B : Nat) : List En → List (Fo × Str) → Fo → Fo → Prop
  | [], zs, c, F => zs = [] ∧ c = F
  | (true, n) :: es, zs, c, F => zs.length < B ∧ Runs B es ((c, n) :: zs) .nil F
  | (false, n) :: es, zs, c, F => ∃ l zs', zs = (l, n) :: zs' ∧ Runs B es zs' (l.app (.cons n c .nil)) F
theorem runs_app {B : Nat} {F : Fo} : ∀ (f : Fo) (es : List En) (zs : List (Fo × Str)) (c : Fo), f.dp + zs.length ≤ B → Runs B es zs (c.app f) F → Runs B (f.erow ++ es) zs c F
  | .nil, es, zs, c, _, h => by rw [Fo.app_nil] at h; exact h
  | .cons n ks r, es, zs, c, hd, h => by
    have hd2 : max (ks.dp + 1) r.dp + zs.length ≤ B := hd
    show Runs B ((true, n) :: ((ks.erow ++ (false, n) :: r.erow) ++ es)) zs c F
    refine ⟨by omega, ?_⟩
    rw [List.append_assoc]
    refine runs_app ks _ _ _ (by rw [List.length_cons]; omega) ⟨c, zs, rfl, ?_⟩
    refine runs_app r _ _ _ (by omega) ?_
    rw [Fo.app_assoc]; exact h
theorem runs_all {B : Nat} (f : Fo) (h : f.dp ≤ B) : Runs B f.erow [] .nil f := by
  have := runs_app (B := B) (F := f) f [] [] .nil (by simpa using h) ⟨rfl, rfl⟩
  rwa [List.append_nil] at this
/-- a wood whose names are names, unlike, and not too many -/
structure NameOk (f : Fo) : Prop where
  nd : f.nm.Nodup
  nms : ∀ z ∈ f.nm, IsName z
  sz : f.nm.length ≤ 1000
/-! what the ends are as texts -/
theorem en_codes (e : En) : (en e).cps.toList = (if e.1 then 43 else 45) :: e.2.cps.toList := by
  obtain ⟨b, n⟩ := e
  have l1 : (("+" : Str)).cps.toList = [43] := by decide +kernel
  have l2 : (("-" : Str)).cps.toList = [45] := by decide +kernel
  cases b
  · show (("-" : Str) ++ n).cps.toList = _
    rw [tl_app, l2]; rfl
  · show (("+" : Str) ++ n).cps.toList = _
    rw [tl_app, l1]; rfl
theorem en_len (e : En) : (en e).length = e.2.length + 1 := by rw [len_tl, en_codes, List.length_cons, ← len_tl]
theorem en_cut1 (e : En) : cutS (en e) (some 1) none = e.2 := str_ext (by rw [cut1, en_codes]; rfl)
theorem en_at0 (e : En) : atI (en e).cps.toList 0 = some (if e.1 then 43 else 45) := by rw [en_codes]; exact atI_nat (j := 0) rfl
theorem p43 : (V.str ⟨#[43]⟩ = V.str "+") := by
  congr 1
theorem p45 : ¬(V.str ⟨#[45]⟩ = V.str "+") := by
  intro h
  have := V.str.inj h
  exact absurd this (by decide +kernel)
end Tw
set_option Elab.async false
set_option linter.all false
set_option maxRecDepth 100000
set_option maxHeartbeats 4000000
/-! rows and woods of the program -/
namespace Tw
open PySem PySem.Spec PyProof.Rows L2 TL
local macro_rules | `(tactic| walk_at "rd") => `(tactic| try simp only [o_op, o_un, o_var, o_c, o_cb, o_call, o_cons, o_nil, o_tup, o_lst, o_I0, o_I, o_int1, o_intb, o_abs, o_test, o_b, o_not, o_and, o_or, o_andV, o_orV, o_notV, o_ifE, o_isN, o_notN, o_eq, o_ne, o_seq, o_next, o_asg, o_name, o_sub, o_par, o_par3, o_drop, o_ret, o_retN, o_ifS, o_sl, o_noPart, o_part, o_bm, o_bm0, o_m0, o_m1, o_dget, o_dput, o_din, o_dnotin, o_listKeys, e_bl, e_int, e_str, e_some, e_two, e_three, o_for, o_lc, o_iList, o_iTup, o_iRng1, e_int1, e_ref, o_yes, o_wipe0, o_wipe1, o_disp, o_dnew, o_pairs0, o_pairs1, o_lock, o_keysM, o_gtup, o_gcons, o_gnil, true_and, if_pos, List.getElem?_cons_zero, List.getElem?_cons_succ, List.set_cons_zero, List.set_cons_succ, List.append_nil])
/-- a wood whose row may be taken -/
structure RowOk (f : Fo) : Prop where
  nd : f.nm.Nodup
  nms : ∀ z ∈ f.nm, IsName z
  sz : f.nm.length ≤ 1000
  dp : f.dp ≤ 100
theorem RowOk.ok {f : Fo} (h : RowOk f) : NameOk f := ⟨h.nd, h.nms, h.sz⟩
def sp_unchecked_wood (K : PySem.W.Frag) : Sp := fun vs H Q _ => ∃ a f, vs = [.ref a] ∧ (SqL K H a (f.row.map V.str) ∨ SqT K H a (f.row.map V.str)) ∧ NameOk f ∧ ∀ p H', Kp H H' → WoodAt K H' p f → Q (.ref p) H'
def sp_row_of (K : PySem.W.Frag) : Sp := fun vs H Q _ => ∃ a f, vs = [.ref a] ∧ WoodAt K H a f ∧ f.nm.length ≤ 1000 ∧ (∀ z ∈ f.nm, z.length ≤ 100) ∧ ∀ p H', Kp H H' → SqT K H' p (f.row.map V.str) → Q (.ref p) H'
theorem o_enumT {K : PySem.W.Frag} {ta : TA} {σ : L2.St} {H : Hp} {R : It → Hp → Prop} : iEnumT K ta σ H R = ta σ H fun vs H1 => ∃ a xs, vs = [.ref a] ∧ SqT K H1 a xs ∧ R (IteT K a) H1 := rfl
theorem o_tru {K : PySem.W.Frag} {ta : TE} {σ : L2.St} {H : Hp} {Q : Bool → Hp → Prop} : tTru K ta σ H Q = ta σ H fun x H' => ∃ k, TruV K x H' k ∧ Q k H' := rfl
theorem o_rU {g : Int → V} {i : Int} {H : Hp} {Q : VK} : rU g (.int i) H Q = Q (g i) H := by
  apply propext; constructor
  · rintro ⟨a, e, q⟩; cases e; exact q
  · intro q; exact ⟨i, rfl, q⟩
section
variable {K : PySem.W.Frag}
theorem len_unchecked_wood (vs : List V) (H : Hp) (Q : VK) (E : XK) (h : sp_unchecked_wood K vs H Q E) : vs.length = 1 := by
  obtain ⟨_, _, rfl, _⟩ := h; rfl
theorem len_row_of (vs : List V) (H : Hp) (Q : VK) (E : XK) (h : sp_row_of K vs H Q E) : vs.length = 1 := by
  obtain ⟨_, _, rfl, _⟩ := h; rfl
theorem strOk_of {z : Str} (h : IsName z) : PyData.strOk z = true := by
  unfold PyData.strOk
  rw [← Array.all_toList, List.all_eq_true]
  intro c hc
  have := h.let_ c hc
  simp only [decide_eq_true_eq]; omega
theorem drop_at {α : Type} {l : List α} {i : Nat} {x : α} (h : l[i]? = some x) : l.drop i = x :: l.drop (i + 1) := by
  obtain ⟨hi, e⟩ := List.getElem?_eq_some_iff.mp h
  rw [List.drop_eq_getElem_cons hi, e]
end
end Tw
set_option Elab.async false
set_option linter.all false
set_option maxRecDepth 100000
set_option maxHeartbeats 4000000
/-! len(set(t)), t a tuple of texts, however many -/
namespace Tw
open PySem PySem.Spec PyProof.Rows L2
/-- how many unlike ones stand among the first i -/
def dcnt (xs : List Str) : Nat → Nat
  | 0 => 0
  | i + 1 => dcnt xs i + if (xs.take i).any (· == xs.getD i Str.empty) then 0 else 1
theorem dcnt_le (xs : List Str) : ∀ i, dcnt xs i ≤ i
  | 0 => Nat.le_refl _
  | i + 1 => by
    have := dcnt_le xs i
    unfold dcnt
    split <;> omega
theorem dcnt_nodup {xs : List Str} (h : xs.Nodup) : ∀ i, i ≤ xs.length → dcnt xs i = i
  | 0, _ => rfl
  | i + 1, hi => by
    unfold dcnt
    have hlt : i < xs.length := hi
    have e : xs.getD i Str.empty = xs[i] := by rw [List.getD_eq_getElem?_getD, List.getElem?_eq_getElem hlt]; rfl
    have no : ((xs.take i).any fun k => k == xs.getD i Str.empty) = false := by
      rw [List.any_eq_false]
      intro x hx hb
      rw [e] at hb
      have e2 : x = xs[i] := beq_iff_eq.mp hb
      obtain ⟨j, hj, e3⟩ := List.mem_take_iff_getElem.mp hx
      have := (List.getElem_inj h).mp (e3.trans e2)
      omega
    rw [no, dcnt_nodup h i (by omega)]
    rfl
section
variable {prog : Program} {w : World} {A : Around} {R : Result → Shared → Prop} {I : Addr} {fp wr : List Addr} {G : Array GenState → Array GenState → Prop} {n : Nat} {P : Nat → Value → Prop} {St : Nat → Shared → Prop}
abbrev SetUpTo (prog : Program) (w : World) (h : Heap) (S : Addr) (xs : List Str) (i : Nat) : Prop := h.SetOf (PySem.strKind prog w) S (fun k => (xs.take i).any (· == k)) (dcnt xs i)
theorem SetUpTo.heap {h h' : Heap} {S : Addr} {xs : List Str} {i : Nat} (q : SetUpTo prog w h S xs i) (k : ∀ o, h.get? S = some o → h'.get? S = some o) : SetUpTo prog w h' S xs i := by
  obtain ⟨o, es, ep, t, ho, rest⟩ := q
  exact ⟨o, es, ep, t, k o ho, rest⟩
theorem take_any {xs : List Str} {i : Nat} (h : i < xs.length) (k : Str) : ((xs.take i).any (· == k) || decide (k = xs.getD i Str.empty)) = (xs.take (i + 1)).any (· == k) := by
  have e : xs.getD i Str.empty = xs[i] := by rw [List.getD_eq_getElem?_getD, List.getElem?_eq_getElem h]; rfl
  rw [List.take_add_one, List.getElem?_eq_getElem h, List.any_append, e]
  congr 1
  by_cases z : k = xs[i]
  · subst z; simp
  · have z2 : ¬ xs[i] = k := fun y => z y.symm
    simp [z, z2]
theorem set_loop (W : WalksS prog w A.in1 I fp wr G n P St) (S : Addr) (hSf : S ∉ fp) (xs : List Str) (hsz : xs.length = n) (hn : n < 4000) (hval : ∀ i v, P i v → ∃ t, v = .str (xs.getD i Str.empty) t) :
    ∀ (k i : Nat) (s : Shared), n - i = k → i ≤ n → St i s → SetUpTo prog w s.heap S xs i → (∀ s', Moved (S :: wr) G s s' → SetUpTo prog w s'.heap S xs n → R (.ok (.ret .none)) s') →
      codeAny (model prog w) A (.builtin "set.update.loop" ⟨[.ref S, .ref I], []⟩) R s := by
  have hSw : S ∉ wr := fun h => hSf (W.sub _ h)
  intro k
  induction k with
  | zero =>
    intro i s hk hi hst hS hR
    obtain rfl : i = n := by omega
    refine codeAny_builtin F.entry_set_update_loop ?_
    rw [Around.under_plainId F.plain_set_update_loop _]
    show wpAny _ A.in1 (pyNext (.ref I) >>= _) _ _ s
    refine wpAny_bind (W.done s _ _ hst fun s' hm => ?_)
    show wpAny _ A.in1 (ret Value.none) _ _ s'
    exact wpAny_pure (hR s' (hm.mono fun b hb => List.mem_cons_of_mem _ hb) (hS.heap fun o ho => hm.heap S o hSw ho))
  | succ k ih =>
    intro i s hk hi hst hS hR
    have hlt : i < n := by omega
    refine codeAny_builtin F.entry_set_update_loop ?_
    rw [Around.under_plainId F.plain_set_update_loop _]
    show wpAny _ A.in1 (pyNext (.ref I) >>= _) _ _ s
    refine wpAny_bind (W.item i s _ _ hlt hst fun v s' hP hst' hm => ?_)
    obtain ⟨t, rfl⟩ := hval i v hP
    have hS1 := hS.heap fun o ho => hm.heap S o hSw ho
    show wpAny _ A.in1 (holding [Value.str (xs.getD i Str.empty) t] (setAdd S (.str (xs.getD i Str.empty) t)) >>= _) _ _ s'
    refine wpAny_bind (wpAny_holding ?_)
    unfold setAdd
    refine wpAny_holding (wpAny_bind ((PySem.strKind prog w).pyHash (k := xs.getD i Str.empty) (strKind_is _ _ _ _) ?_))
    refine wpAny_setAddHashed_of (knd := PySem.strKind prog w) (s := { s' with toks := s'.toks + 1 }) (strKind_is _ _ _ _) rfl hS1 (by have := dcnt_le xs i; unfold scanBound; omega) fun h' hsb hS2 => ?_
    have hS3 : SetUpTo prog w h' S xs (i + 1) := by
      refine SetOf_congr hS2 (fun k => take_any (by omega) k) ?_
      show (if (xs.take i).any (· == xs.getD i Str.empty) then dcnt xs i else dcnt xs i + 1) = dcnt xs (i + 1)
      conv => rhs; unfold dcnt
      split <;> rfl
    have keep : ∀ b o, b ≠ S → s'.heap.get? b = some o → h'.get? b = some o := fun b o hb e => by rw [hsb.2 b hb]; exact e
    refine wpAny_pure ⟨plainId_quiet F.plain_set_update_loop _, ih (i + 1) _ (by omega) hlt (W.frame _ s' _ _ hst' (Nat.le_succ _) fun b hb o e => keep b o (fun h => hSf (h ▸ hb)) e) hS3 fun s'' hm2 hS4 => ?_⟩
    exact hR s'' (Moved.trans W.gtrans ((hm.mono fun b hb => List.mem_cons_of_mem _ hb).then_heap (Nat.le_succ _) fun b o hb e => keep b o (fun h => hb (by rw [h]; exact List.mem_cons_self)) e) hm2) hS4
end
section
variable {prog : Program} {w : World} {A : Around} {E : Value → Shared → Prop} {s : Shared}
/-- an empty set, as it is made -/
abbrev bareSet (led : Bool) : Obj := { cls := .type "set", dict := none, data := .set #[] 0 (.fresh 0 0 led) }
theorem set_init {led : Bool} {l : Addr} {items : Array Value} {xs : List Str} {A : Around} (hh : A.handled = none) (hl : s.heap.IsTuple l items) (hi : StrsAre items.toList xs) (hn : xs.length < 4000) {Q : PySem.Fin → Shared → Prop}
    (h : ∀ (h' : Heap) (tk : Nat), SetUpTo prog w h' s.heap.objs.size xs xs.length → (∀ b o, b < s.heap.objs.size → s.heap.get? b = some o → h'.get? b = some o) → Q (.done (.ret .none)) { s with heap := h', toks := tk }) :
    wpAny (model prog w) A (Builtin.«set.__init__» ⟨[.ref s.heap.objs.size, .ref l], []⟩) Q E { s with heap := s.heap.push (bareSet led) } := by
  have hT : (s.heap.push (bareSet led)).IsTuple l items := by
    obtain ⟨o, ho, hc, n, hd⟩ := hl
    exact ⟨o, Heap.get?_push_of_some _ ho, hc, n, hd⟩
  have hTk := hT
  obtain ⟨ol, hol, hcl, nl, hdl⟩ := hT
  obtain ⟨c1, c2, c3, c4⟩ := ol
  simp only at hcl hdl
  subst hcl; subst hdl
  have q1 := PySem.F.sub_tuple_set
  have q2 := PySem.F.sub_tuple_frozenset
  have q3 : (Value.type "tuple" == Value.type "dict") = false := by decide
  have hS : (s.heap.push (bareSet led)).get? s.heap.objs.size = some (bareSet led) := Heap.get?_push_size _ rfl
  unfold Builtin.«set.__init__» noKeywords Builtin.Frozenset.updateFrom
  generalize hPI : pyIter = PI
  wp_walk
  subst hPI
  refine wpAny_pyIter_tuple hTk ?_
  refine wpAny_bind (wpAny_runValue ?_)
  have hlS : l < s.heap.objs.size := by
    obtain ⟨o, ho, _⟩ := hl
    exact Heap.lt_size ho
  have ne1 : l ≠ (s.heap.push (bareSet led)).objs.size := by rw [Heap.size_push]; exact Nat.ne_of_lt (Nat.lt_succ_of_lt hlS)
  have ne2 : s.heap.objs.size ∉ [(s.heap.push (bareSet led)).objs.size, l] := by
    rw [Heap.size_push]
    intro hm
    rcases List.mem_cons.mp hm with e | hm
    · exact absurd e (Nat.ne_of_lt (Nat.lt_succ_self _))
    · exact absurd (List.mem_singleton.mp hm) (Nat.ne_of_gt hlS)
  have hsz : xs.length = items.size := by rw [← StrsAre.len_eq hi, Array.length_toList]
  refine set_loop ((Walks.tuple (by simp [hh]) _ l ne1 items).toS) s.heap.objs.size ne2 xs hsz (by rw [← hsz]; exact hn) (fun i v hv => SS.strs_at hi i v (by rw [Array.getElem?_toList]; exact hv)) (items.size - 0) 0 _ (by omega) (Nat.zero_le _) ⟨⟨_, Heap.get?_push_size _ rfl, rfl, rfl⟩, hTk.push _⟩ ?_ ?_
  ·
    exact SetOf_congr ((PyProof.Rows.setObjOf_fresh (knd := PySem.strKind prog w) led).setOf (Heap.get?_push_of_some _ hS) (by unfold scanBound; omega)) (fun _ => rfl) rfl
  ·
    intro s' hm hS'
    obtain ⟨h', g', d', tk', os'⟩ := s'
    obtain rfl : g' = s.gens := hm.gens
    obtain rfl : d' = s.drawn := hm.drawn
    obtain rfl : os' = s.os := hm.os
    show wpAny _ _ _ _ _ _
    refine wpAny_pure ?_
    show wpAny _ _ (ret Value.none) _ _ _
    refine wpAny_pure (h h' tk' (by rw [hsz]; exact hS') fun b o hb e => ?_)
    refine hm.heap b o (fun hmem => ?_) (Heap.get?_push_of_some _ (Heap.get?_push_of_some _ e))
    rcases List.mem_cons.mp hmem with e1 | hmem
    · exact absurd e1 (Nat.ne_of_lt hb)
    · have e2 := List.mem_singleton.mp hmem
      rw [Heap.size_push] at e2
      exact absurd e2 (Nat.ne_of_lt (Nat.lt_succ_of_lt hb))
theorem call_set_tup {l : Addr} {items : Array Value} {xs : List Str} {Q : Value → Shared → Prop} (hh : A.handled = none) (hl : s.heap.IsTuple l items) (hi : StrsAre items.toList xs) (hn : xs.length < 4000)
    (h : ∀ (h' : Heap) (tk : Nat), SetUpTo prog w h' s.heap.objs.size xs xs.length → (∀ b o, b < s.heap.objs.size → s.heap.get? b = some o → h'.get? b = some o) → Q (.ref s.heap.objs.size) { s with heap := h', toks := tk }) :
    wpAny (model prog w) A (call (.type "set") [.ref l]) Q E s := by
  obtain ⟨mc, mt, hmro⟩ := PySem.F.called_set.mro
  have a1 := PySem.F.called_set.made
  have a2 := PySem.F.called_set.sub
  have a3 := PySem.F.called_set.notType
  have a4 := PySem.F.called_set.canCreate
  have a5 := PySem.F.typeCall_set_1 (.ref l)
  refine wpAny_call (codeAny_of_tree ?_)
  show wpAny _ _ (callAny (.type "set") _) _ _ _
  refine wpAny_pure ⟨Code.quiet_builtin _ (by decide +kernel), codeAny_builtin PySem.F.entry_type_call ?_⟩
  rw [Around.under_plain (weight_type_call_type "set" [.ref l] []) rfl]
  repeat (any_goals (first | assumption | wp_step))
  refine codeAny_mono (code_set_new_1 (.ref l) (E := E) (Q₁ := fun obj s₁ => ∃ led : Bool, obj = .ref s.heap.objs.size ∧ s₁ = { s with heap := s.heap.push (bareSet led) }) fun led => ⟨led, rfl, rfl⟩) fun r s₁ hr => ?_
  rcases r with e | (_ | _ | _ | obj)
  all_goals first | exact hr | exact hr.elim | skip
  obtain ⟨led, rfl, rfl⟩ := hr
  have hS : (s.heap.push (bareSet led)).get? s.heap.objs.size = some (bareSet led) := Heap.get?_push_size _ rfl
  have hT : Shared.TypeIs { s with heap := s.heap.push (bareSet led) } (.ref s.heap.objs.size) "set" := ⟨_, hS, rfl⟩
  have b1 := PySem.F.called_set.init.lookup
  have b2 := PySem.F.called_set.init.bind (.ref s.heap.objs.size)
  repeat (any_goals (first | assumption | wp_step))
  refine codeAny_mono (codeAny_call_builtin (R := wants (fun r s₂ => r = .none ∧ ∃ h' tk, s₂ = { s with heap := h', toks := tk } ∧ SetUpTo prog w h' s.heap.objs.size xs xs.length ∧ (∀ b o, b < s.heap.objs.size → s.heap.get? b = some o → h'.get? b = some o)) E)
    PySem.F.called_set.init.plain PySem.F.entry_set_init (check_set_init_1 hT ?_)) fun r₂ s₂ hr₂ => ?_
  · exact set_init (by simp [hh]) hl hi hn fun h' tk hS' hk => ⟨rfl, h', tk, rfl, hS', hk⟩
  · rcases r₂ with e | (_ | _ | _ | r)
    all_goals first | exact hr₂ | exact hr₂.elim | skip
    obtain ⟨rfl, h', tk, rfl, hS', hk⟩ := hr₂
    repeat (any_goals (first | assumption | wp_step))
    exact h _ _ hS' hk
end
section
variable {X : Cx}
/-- len(set(t)) -/
def tLenSetT (K : PySem.W.Frag) (ta : TE) : TE := fun σ H Q => ta σ H fun x H1 => ∃ (l : Addr) (xs : List Str), x = .ref l ∧ SqT K H1 l (xs.map V.str) ∧ xs.length < 4000 ∧ Q (.int (dcnt xs xs.length : Nat)) H1
theorem pe_lenSetT {a : Expr} {ta : TE} {p p2 q pos : Pos} (hm : X.mg "len" = none) (hm2 : X.mg "set" = none) (ha : PE X a ta) (hc : X.calm = true := by rfl) (hg : Gl X "len" := by rfl) (hg2 : Gl X "set" := by rfl)
    (na : starEach [a] X.env = (false, eval a X.env) :: starEach [] X.env := by rfl) : PE X (.Call (.Name "len" p) [.Call (.Name "set" p2) [a] [] q] [] pos) (tLenSetT X.K ta) := by
  refine ⟨fun pins s σ H Q I h => ?_⟩
  refine Call_ (ld_blt I hg hm boot_len (callWith_builtin1 (args_cons ?_ rfl) rfl rfl))
  refine Call_ (ld_blt I hg2 hm2 boot_set (callWith_type1 (args_cons (thn (ha.run pins s σ H _ I h) fun v s1 ⟨x, H1, I1, r1, l, xs, ex, hq, hn, q1⟩ => args_nil ?_) na) na rfl))
  subst ex
  cases r1
  obtain ⟨its, r, pl, _⟩ := I1.tuple hq
  refine call_set_tup (I1.ok.hd hc) pl (by simpa using strsAre_of r) hn fun h' tk hS hk => args_nil ?_
  obtain ⟨o, es, ep, t, ho, hex, hd, _, _, _, hf, hcount⟩ := hS
  have I2 := I1.kept (t' := tk) fun b o e => hk b o (Heap.lt_size e) e
  refine call_len_set ho hex hd hf ?_ ⟨.int (dcnt xs xs.length : Nat), H1, I2.tok _, ⟨_, by rw [hcount]⟩, q1⟩
  rw [hcount]
  have := dcnt_le xs xs.length
  omega
end
section
variable {X : Cx}
/-- what a for walks: a list or a tuple -/
def iSeq (K : PySem.W.Frag) (te : TE) : TI := fun σ H R => te σ H fun x H1 => ∃ a, x = .ref a ∧ (((∃ xs, SqL K H1 a xs) ∧ R (Itl K a) H1) ∨ ((∃ xs, SqT K H1 a xs) ∧ R (Itt K a) H1))
theorem pi_seq {tg l : Expr} {te : TE} (hl : PE X l te) : PI X tg l (iSeq X.K te) := by
  refine ⟨fun pins s σ H R I h => thn (hl.run pins s σ H _ I h) fun v s1 ⟨x, H1, I1, r1, a, e, q⟩ => ?_⟩
  subst e
  cases r1
  have own : ∀ b ∈ [s1.heap.objs.size], b = s1.heap.objs.size := fun b hb => List.mem_singleton.mp hb
  rcases q with ⟨⟨xs, hq⟩, q⟩ | ⟨⟨xs, hq⟩, q⟩
  · obtain ⟨its, rv, p, _⟩ := I1.list hq
    refine wpAny_pyIter_list p.isList ⟨s1.heap.objs.size, [s1.heap.objs.size], _, _, H1, rfl, I1.kept (t' := s1.toks) fun b o e => Heap.get?_push_of_some _ e, turn_list a _, ⟨_, Heap.get?_push_size _ rfl, rfl, rfl⟩, fun b hb => ?_, q⟩
    rw [own b hb]
    exact I1.fpOk (Nat.le_refl _) (I1.hok.fresh (Nat.le_refl _))
  · obtain ⟨its, rv, p, _⟩ := I1.tuple hq
    refine wpAny_pyIter_tuple (show s1.heap.IsTuple a its.toArray from p) ⟨s1.heap.objs.size, [s1.heap.objs.size], _, _, H1, rfl, I1.kept (t' := s1.toks) fun b o e => Heap.get?_push_of_some _ e, turn_tuple a _, ⟨_, Heap.get?_push_size _ rfl, rfl, rfl⟩, fun b hb => ?_, q⟩
    rw [own b hb]
    exact I1.fpOk (Nat.le_refl _) (I1.hok.fresh (Nat.le_refl _))
end
end Tw
set_option Elab.async false
set_option linter.all false
set_option maxRecDepth 100000
set_option maxHeartbeats 4000000
/-! the wood of a row -/
namespace Tw
open PySem PySem.Spec PyProof.Rows L2 TL
local macro_rules | `(tactic| walk_at "rd") => `(tactic| try simp only [o_op, o_un, o_var, o_c, o_cb, o_call, o_cons, o_nil, o_tup, o_lst, o_I0, o_I, o_int1, o_intb, o_abs, o_test, o_b, o_not, o_and, o_or, o_andV, o_orV, o_notV, o_ifE, o_isN, o_notN, o_eq, o_ne, o_seq, o_next, o_asg, o_name, o_sub, o_par, o_par3, o_drop, o_ret, o_retN, o_ifS, o_sl, o_noPart, o_part, o_bm, o_bm0, o_m0, o_m1, o_dget, o_dput, o_din, o_dnotin, o_listKeys, e_bl, e_int, e_str, e_some, e_two, e_three, o_for, o_lc, o_iList, o_iTup, o_iRng1, e_int1, e_ref, o_yes, o_wipe0, o_wipe1, o_disp, o_dnew, o_pairs0, o_pairs1, o_lock, o_keysM, o_gtup, o_gcons, o_gnil, true_and, if_pos, List.getElem?_cons_zero, List.getElem?_cons_succ, List.set_cons_zero, List.set_cons_succ, List.append_nil])
def t_unchecked_wood_b1 (K : PySem.W.Frag) : TS :=
  (tIfS (tTest (tOp rEq (tOp rIxS (tVar 3) (tC (.int 0))) (tC (.str "+")))) (tDrop (tBM K "list" rAppend (tVar 2) (tCons (tCB (rLenSeq K) (tCons (tVar 1) tNil)) tNil))) (tSeq (tAsg (tBM0 K "list" rPop (tVar 2)) (gName 4))
  (tAsg (tLst (tCons (tTup (tCons (L2.tSl rSlS (tVar 3) (tPart (tC (.int 1))) tNoPart) (tCons (tCB (rTupleOf K) (tCons (L2.tSl (rSlL K) (tVar 1) (tPart (tVar 4)) tNoPart) tNil)) tNil))) tNil)) (gFrom (tVar 1) (tVar 4)))))
def t_unchecked_wood (K : PySem.W.Frag) : TS :=
  (tSeq (tAsg (tLst tNil) (gName 1))
  (tSeq (tAsg (tLst tNil) (gName 2))
  (tSeq (tFor (iSeq K (tVar 0)) (gName 3)
  (t_unchecked_wood_b1 K))
  (tRet (tCB (rTupleOf K) (tCons (tVar 1) tNil))))))
section
variable {K : PySem.W.Frag} {σ : L2.St} {H : Hp} {te : TE} {D : Ends} {t : TS} {g : TG}
theorem o_seqI {R : It → Hp → Prop} : iSeq K te σ H R = te σ H fun x H1 => ∃ a, x = .ref a ∧ (((∃ xs, SqL K H1 a xs) ∧ R (Itl K a) H1) ∨ ((∃ xs, SqT K H1 a xs) ∧ R (Itt K a) H1)) := rfl
theorem fb_seq {a : Addr} {xs : List V} {H0 : Hp} (h00 : SqL K H0 a xs ∨ SqT K H0 a xs) (Pv : Nat → L2.St → Hp → Prop) (h0 : Pv 0 σ H) (hl : ∀ i σ H', i ≤ xs.length → Pv i σ H' → (SqL K H0 a xs → SqL K H' a xs) ∧ (SqT K H0 a xs → SqT K H' a xs))
    (hs : ∀ i x σ H, xs[i]? = some x → Pv i σ H → g x σ H fun σ2 H2 => t { D with nx := Pv (i + 1), ct := Pv (i + 1), bk := D.nx } σ2 H2) (hd : ∀ σ H, Pv xs.length σ H → D.nx σ H) :
    ((∃ xs, SqL K H a xs) ∧ ForB (Itl K a) g t D σ H) ∨ ((∃ xs, SqT K H a xs) ∧ ForB (Itt K a) g t D σ H) := by
  rcases h00 with h | h
  · have hH := (hl 0 σ H (Nat.zero_le _) h0).1 h
    exact .inl ⟨⟨_, hH⟩, fb_list Pv h0 (fun i σ H' hi p => (hl i σ H' hi p).1 h) hs hd⟩
  · have hH := (hl 0 σ H (Nat.zero_le _) h0).2 h
    exact .inr ⟨⟨_, hH⟩, fb_tup Pv h0 (fun i σ H' hi p => (hl i σ H' hi p).2 h) hs hd⟩
end
/-- all trees that are done, whatever is open -/
def flat : List (Fo × Str) → Fo
  | [] => .nil
  | z :: zs => (flat zs).app z.1
def begs : List (Fo × Str) → List V
  | [] => []
  | z :: zs => begs zs ++ [.int ((flat (z :: zs)).tops.length : Nat)]
theorem begs_len : ∀ zs, (begs zs).length = zs.length
  | [] => rfl
  | z :: zs => by rw [begs, List.length_append, begs_len zs]; rfl
theorem o_from {to ti : TE} {v : V} {σ : L2.St} {H : Hp} {Q : L2.St → Hp → Prop} : gFrom to ti v σ H Q = to σ H fun o H1 => ti σ H1 fun i H2 => ∃ (l b : Addr) (xs ys : List V) (a : Int), o = .ref l ∧ i = .int a ∧ v = .ref b ∧ H2 l = some (.lst xs) ∧ H2 b = some (.lst ys) ∧ l ≠ b ∧ 0 ≤ a ∧ a ≤ xs.length ∧ xs.length + ys.length ≤ sizeLine ∧ Q σ (upd H2 l (.lst (xs.take a.toNat ++ ys))) := rfl
section
variable {K : PySem.W.Frag}
theorem sql_kp {H H' : Hp} {a : Addr} {xs : List V} (h : SqL K H a xs) (k : Kp H H') : SqL K H' a xs := by
  rcases h with (h | ⟨o, h⟩) | h
  · exact .inl (.inl (k _ _ h))
  · exact .inl (.inr ⟨o, k _ _ h⟩)
  · exact .inr h
theorem sq_two {H H' : Hp} {a : Addr} {xs : List V} (_ : SqL K H a xs ∨ SqT K H a xs) (k : Kp H H') : (SqL K H a xs → SqL K H' a xs) ∧ (SqT K H a xs → SqT K H' a xs) := ⟨fun h => sql_kp h k, fun h => Tk.kp k _ _ h⟩
theorem Rp.app {H : Hp} {v1 v2 : List V} {f g : Fo} (h1 : Rp K H v1 f) (h2 : Rp K H v2 g) : Rp K H (v1 ++ v2) (f.app g) := by
  induction h1 with
  | nil => exact h2
  | cons a b c _ _ ih => exact .cons a b c ih
theorem Rp.split {H : Hp} : ∀ {vs : List V} {f g : Fo}, Rp K H vs (f.app g) → ∃ v1 v2, vs = v1 ++ v2 ∧ Rp K H v1 f ∧ Rp K H v2 g
  | vs, .nil, g, h => ⟨[], vs, rfl, .nil, h⟩
  | _, .cons n ks r, g, .cons a b c d => by
    obtain ⟨v1, v2, e, h1, h2⟩ := Rp.split (f := r) d
    exact ⟨_ :: v1, v2, by rw [e]; rfl, .cons a b c h1, h2⟩
theorem pure_unchecked_wood (vs : List V) (H : Hp) (Q : VK) (E : XK) (h : sp_unchecked_wood K vs H Q E) : t_unchecked_wood K { nx := fun _ H' => Q .non H', rt := Q } (startN 5 vs) H := by
  obtain ⟨a, f, rfl, ha, hf, q⟩ := h
  show t_unchecked_wood K _ [some (.ref a), none, none, none, none] H
  unfold t_unchecked_wood
  have hz := sizeLine_eq
  have hsz := hf.sz
  walk_at "rd"
  refine ⟨Nat.zero_le _, fun dn hdn => ?_⟩
  generalize hG : upd H dn _ = H1
  obtain ⟨k1, e1⟩ := gen_new hdn hG
  clear hG
  refine ⟨Nat.zero_le _, fun bn hbn => ?_⟩
  generalize hG : upd H1 bn _ = H2
  obtain ⟨k2, e2⟩ := gen_new hbn hG
  clear hG
  have k02 : Kp H H2 := fun b o e => k2 _ _ (k1 _ _ e)
  have dnbn : dn ≠ bn := ne_of_none e1 hbn
  have dnH : H dn = none := hdn
  have bnH : H bn = none := Kp.free k1 hbn
  rw [o_seqI]
  walk_at "rd"
  rw [Fo.row_erow, List.map_map] at ha
  have hlen : f.erow.length = 2 * f.nm.length := by rw [← row_len f, Fo.row_erow, List.length_map]
  refine fb_seq (xs := f.erow.map (V.str ∘ en)) (H0 := H) ha (fun i σ H3 => ∃ zs c ws x y, Kp H H3 ∧ H3 dn = some (.lst ws) ∧ Rp K H3 ws ((flat zs).app c) ∧ H3 bn = some (.lst (begs zs)) ∧ Runs 1000 (f.erow.drop i) zs c f ∧ ws.length ≤ i ∧ i ≤ f.erow.length ∧ zs.length ≤ i ∧
    σ = [some (.ref a), some (.ref dn), some (.ref bn), x, y]) ?_ ?_ ?_ ?_
  · exact ⟨[], .nil, [], _, _, k02, k2 _ _ e1, .nil, e2, runs_all f (by have := Fo.dp_le f; omega), Nat.le_refl _, Nat.zero_le _, Nat.zero_le _, rfl⟩
  · rintro i σ H3 _ ⟨zs, c, ws, x, y, k3, _⟩
    exact sq_two ha k3
  · rintro i v σ H3 hx ⟨zs, c, ws, x, y, k3, hd3, rp, hb3, hr, hwl, hi, hzl, rfl⟩
    rw [List.getElem?_map, Option.map_eq_some_iff] at hx
    obtain ⟨e, he, rfl⟩ := hx
    rw [drop_at he] at hr
    have hi2 := (List.getElem?_eq_some_iff.mp he).1
    have hie : IsName e.2 := hf.nms _ (erow_nm f e (List.mem_of_getElem? he))
    have h8 := hie.eight
    unfold t_unchecked_wood_b1
    walk_at "rd"
    refine o_ixS (by rw [en_len]; omega) (en_at0 e) ⟨rfl, ?_⟩
    obtain ⟨b, n⟩ := e
    cases b with
    | true =>
      obtain ⟨hlt, hr2⟩ := hr
      refine ite2 (fun _ => ?_) fun h => absurd (by simpa using p43) h
      refine ⟨.inl ⟨rfl, _, SqL.of hb3⟩, dn, _, rfl, .inl (SqL.of hd3), bn, _, _, rfl, rfl, hb3, by rw [begs_len]; omega, ?_⟩
      generalize hG : upd H3 bn _ = H4
      obtain ⟨k4, e4⟩ := gen_chg hG
      clear hG
      refine ⟨(c, n) :: zs, .nil, ws, _, _, fun b o e => k4 _ _ (k3 _ _ e) (ne_of_none e bnH), k4 _ _ hd3 dnbn, ?_, ?_, hr2, by omega, by omega, by rw [List.length_cons]; omega, rfl⟩
      · rw [Fo.app_nil]
        exact rp.mono (Tk.but (.inl ⟨_, hb3⟩) k4)
      · rw [e4, begs, rp.len]; rfl
    | false =>
      obtain ⟨l, zs', rfl, hr2⟩ := hr
      refine ite2 (fun h => absurd (by simpa using h) p45) fun _ => ?_
      walk_at "rd"
      refine ⟨.inl ⟨rfl, _, SqL.of hb3⟩, bn, _, .int ((flat ((l, n) :: zs')).tops.length : Nat), rfl, rfl, hb3, by rw [begs]; simp, ?_⟩
      rw [begs, List.dropLast_concat]
      generalize hG : upd H3 bn _ = H4
      obtain ⟨k4, e4⟩ := gen_chg hG
      clear hG
      have hd4 := k4 _ _ hd3 dnbn
      obtain ⟨v1, v2, rfl, rp1, rp2⟩ := rp.split
      have hb : ((flat ((l, n) :: zs')).tops.length : Nat) = v1.length := rp1.len.symm
      rw [hb]
      walk_at "rd"
      refine ⟨en (false, n), rfl, by rw [en_len]; omega, dn, _, rfl, SqL.of hd4, fun p1 hp1 => ?_⟩
      rw [en_cut1]
      have hc : cutV (v1 ++ v2) (some (v1.length : Int)) none = v2 := by
        unfold cutV
        rw [HT.sIx_none, HT.sIx_nat, List.length_append, Nat.min_eq_left (by omega)]
        simp
      rw [hc]
      generalize hG : upd H4 p1 _ = H5
      obtain ⟨k5, e5⟩ := gen_new hp1 hG
      clear hG
      refine ⟨p1, _, rfl, .inl ⟨SqL.of e5, fun p2 hp2 => ?_⟩⟩
      generalize hG : upd H5 p2 _ = H6
      obtain ⟨k6, e6⟩ := gen_new hp2 hG
      clear hG
      refine ⟨by show 2 ≤ sizeLine; omega, fun p3 hp3 => ?_⟩
      generalize hG : upd H6 p3 _ = H7
      obtain ⟨k7, e7⟩ := gen_new hp3 hG
      clear hG
      refine ⟨by show 1 ≤ sizeLine; omega, fun p4 hp4 => ?_⟩
      generalize hG : upd H7 p4 _ = H8
      obtain ⟨k8, e8⟩ := gen_new hp4 hG
      clear hG
      rw [o_from]
      walk_at "rd"
      have k48 : Kp H4 H8 := fun b o e => k8 _ _ (k7 _ _ (k6 _ _ (k5 _ _ e)))
      have hd8 := k48 _ _ hd4
      have dp4 : dn ≠ p4 := ne_of_none (k7 _ _ (k6 _ _ (k5 _ _ hd4))) hp4
      refine ⟨dn, p4, _, _, _, rfl, rfl, rfl, hd8, e8, dp4, by omega, by rw [List.length_append]; omega, by simp only [List.length_append, List.length_cons, List.length_nil] at hwl ⊢; omega, ?_⟩
      rw [Int.toNat_natCast, List.take_left]
      generalize hG : upd H8 dn _ = H9
      obtain ⟨k9, e9⟩ := gen_chg hG
      clear hG
      have t39 : Tk K H3 H9 := ((Tk.but (.inl ⟨_, hb3⟩) k4).trans (Tk.kp k48)).trans (Tk.but (.inl ⟨_, hd8⟩) k9)
      have t69 : Tk K H6 H9 := (Tk.kp fun b o e => k8 _ _ (k7 _ _ e)).trans (Tk.but (.inl ⟨_, hd8⟩) k9)
      have t79 : Tk K H7 H9 := (Tk.kp k8).trans (Tk.but (.inl ⟨_, hd8⟩) k9)
      refine ⟨zs', _, _, _, _, fun b o e => k9 _ _ (k48 _ _ (k4 _ _ (k3 _ _ e) (ne_of_none e bnH))) (ne_of_none e dnH), e9, ?_, k9 _ _ (k48 _ _ e4) dnbn.symm, hr2, ?_, by omega, by simp only [List.length_cons] at hzl; omega, rfl⟩
      · rw [← Fo.app_assoc]
        exact Rp.app (rp1.mono t39) (.cons (t79 _ _ (SqT.of e7)) (t69 _ _ (SqT.of e6)) (rp2.mono t39) .nil)
      · simp only [List.length_append, List.length_cons, List.length_nil] at hwl ⊢; omega
  · rintro σ H3 ⟨zs, c, ws, x, y, k3, hd3, rp, hb3, hr, hwl, hi, hzl, rfl⟩
    rw [List.length_map, List.drop_length] at hr
    obtain ⟨rfl, rfl⟩ := hr
    walk_at "rd"
    refine ⟨dn, _, rfl, .inl ⟨SqL.of hd3, fun p hp => ?_⟩⟩
    generalize hG : upd H3 p _ = H4
    obtain ⟨k4, e4⟩ := gen_new hp hG
    clear hG
    exact q p H4 (fun b o e => k4 _ _ (k3 _ _ e)) ⟨ws, SqT.of e4, rp.mono (Tk.kp k4)⟩
end
end Tw
set_option Elab.async false
set_option linter.all false
set_option maxRecDepth 100000
set_option maxHeartbeats 4000000
/-! the wood of a row, the row of a wood -/
namespace Tw
open PySem PySem.Spec PyProof.Rows L2 TL
local macro_rules | `(tactic| walk_at "rd") => `(tactic| try simp only [o_op, o_un, o_var, o_c, o_cb, o_call, o_cons, o_nil, o_tup, o_lst, o_I0, o_I, o_int1, o_intb, o_abs, o_test, o_b, o_not, o_and, o_or, o_andV, o_orV, o_notV, o_ifE, o_isN, o_notN, o_eq, o_ne, o_seq, o_next, o_asg, o_name, o_sub, o_par, o_par3, o_drop, o_ret, o_retN, o_ifS, o_sl, o_noPart, o_part, o_bm, o_bm0, o_m0, o_m1, o_dget, o_dput, o_din, o_dnotin, o_listKeys, e_bl, e_int, e_str, e_some, e_two, e_three, o_for, o_lc, o_iList, o_iTup, o_iRng1, e_int1, e_ref, o_yes, o_wipe0, o_wipe1, o_disp, o_dnew, o_pairs0, o_pairs1, o_lock, o_keysM, o_gtup, o_gcons, o_gnil, true_and, if_pos, List.getElem?_cons_zero, List.getElem?_cons_succ, List.set_cons_zero, List.set_cons_succ, List.append_nil])
def t_row_of_b1 (K : PySem.W.Frag) : TS :=
  (tSeq (tAsg (tBM0 K "list" rPop (tVar 2)) (gName 3))
  (tIfS (tB (tIsi K "str" (tVar 3))) (tDrop (tBM K "list" rAppend (tVar 1) (tCons (tVar 3) tNil))) (tSeq (tAsg (tVar 3) (gTup K 2 (gCons (gName 4) (gCons (gName 5) gNil))))
  (tSeq (tDrop (tBM K "list" rAppend (tVar 1) (tCons (tJoined [(tC (.str "+")), (tFmt (tVar 4))]) tNil)))
  (tSeq (tDrop (tBM K "list" rAppend (tVar 2) (tCons (tJoined [(tC (.str "-")), (tFmt (tVar 4))]) tNil)))
  (tDrop (tBM K "list" (rExtendT K) (tVar 2) (tCons (tRevT K (tVar 5)) tNil))))))))
def t_row_of (K : PySem.W.Frag) : TS :=
  (tSeq (tAsg (tLst tNil) (gName 1))
  (tSeq (tAsg (tCB (rListOf K) (tCons (tRevT K (tVar 0)) tNil)) (gName 2))
  (tSeq (tWhile (tTru K (tVar 2))
  (t_row_of_b1 K))
  (tRet (tCB (rTupleOf K) (tCons (tVar 1) tNil))))))
section
variable {K : PySem.W.Frag}
theorem sqt_ty {H : Hp} {a : Addr} {xs : List V} (h : SqT K H a xs) : TyX K H (.ref a) (.type "tuple") := by
  rcases h with (h | ⟨ob, h⟩) | ⟨o, its, n, h1, h2, _⟩
  · exact .base (.tup h)
  · exact .fTuple h
  · exact .kTuple h1 h2
theorem o_isiT {H : Hp} {Q : VK} {a : Addr} {xs : List V} (h : SqT K H a xs) (q : Q (.bl true) H) : rIsiB K "tuple" [.ref a, .ty "tuple"] H Q := ⟨_, "tuple", true, rfl, (sqt_ty h), by decide +kernel, q⟩
theorem sqt_noStr {H : Hp} {a : Addr} {xs : List V} (h : SqT K H a xs) : NoStr K H (.ref a) := ⟨"tuple", (sqt_ty h), by decide +kernel⟩
/-! ### row_of -/
theorem o_revT {te : TE} {σ : L2.St} {H : Hp} {Q : VK} : tRevT K te σ H Q = te σ H fun x H1 => ∃ a xs, x = .ref a ∧ SqT K H1 a xs ∧ ∀ p, H1 p = none → Q (.ref p) (upd H1 p (.tup xs.reverse)) := rfl
/-- what is still to be told: an end, or a tree -/
abbrev Td := Str ⊕ (Str × Fo)
def tdOut : Td → List Str
  | .inl s => [s]
  | .inr z => (Fo.cons z.1 z.2 .nil).row
inductive TdAt (K : PySem.W.Frag) (H : Hp) : List V → List Td → Prop where
  | nil : TdAt K H [] []
  | str {s : Str} {vs : List V} {ts : List Td} : TdAt K H vs ts → TdAt K H (.str s :: vs) (.inl s :: ts)
  | tree {t k : Addr} {n : Str} {kvs vs : List V} {ks : Fo} {ts : List Td} : SqT K H t [.str n, .ref k] → SqT K H k kvs → Rp K H kvs ks → TdAt K H vs ts → TdAt K H (.ref t :: vs) (.inr (n, ks) :: ts)
theorem TdAt.mono {H H' : Hp} (t : Tk K H H') {vs : List V} {ts : List Td} (h : TdAt K H vs ts) : TdAt K H' vs ts := by
  induction h with
  | nil => exact .nil
  | str _ ih => exact .str ih
  | tree a b c _ ih => exact .tree (t _ _ a) (t _ _ b) (c.mono t) ih
def trees : Fo → List Td
  | .nil => []
  | .cons n ks r => .inr (n, ks) :: trees r
theorem TdAt.of {H : Hp} {vs ws : List V} {f : Fo} {ts : List Td} (h : Rp K H vs f) (hw : TdAt K H ws ts) : TdAt K H (vs ++ ws) (trees f ++ ts) := by
  induction h with
  | nil => exact hw
  | cons a b c _ _ ih => exact .tree a b c ih
theorem trees_out : ∀ f : Fo, ((trees f).map tdOut).flatten = f.row
  | .nil => rfl
  | .cons n ks r => by
    have h : (trees (.cons n ks r)).map tdOut = (Fo.cons n ks .nil).row :: (trees r).map tdOut := rfl
    rw [h, List.flatten_cons, trees_out r]
    simp [Fo.row]
def TdOk : Td → Prop
  | .inl s => s.length ≤ 200
  | .inr z => (∀ m ∈ (Fo.cons z.1 z.2 .nil).nm, m.length ≤ 100)
theorem trees_ok : ∀ {f : Fo}, (∀ m ∈ f.nm, m.length ≤ 100) → ∀ t ∈ trees f, TdOk t
  | .cons n ks r, h, t, ht => by
    rcases List.mem_cons.mp ht with e | ht
    · subst e
      intro m hm
      have hm2 : m ∈ n :: (ks.nm ++ []) := hm
      rw [List.append_nil] at hm2
      rcases List.mem_cons.mp hm2 with e | hm2
      · exact h m (e ▸ List.mem_cons_self ..)
      · exact h m (List.mem_cons_of_mem _ (List.mem_append_left _ hm2))
    · exact trees_ok (fun m hm => h m (List.mem_cons_of_mem _ (List.mem_append_right _ hm))) t ht
theorem td_le (ts : List Td) : ts.length ≤ ((ts.map tdOut).flatten).length := by
  induction ts with
  | nil => exact Nat.le_refl _
  | cons t ts ih =>
    rw [List.map_cons, List.flatten_cons, List.length_append, List.length_cons]
    have : 1 ≤ (tdOut t).length := by
      cases t with
      | inl s => exact Nat.le_refl _
      | inr z => show 1 ≤ (Fo.plus z.1 :: _).length; rw [List.length_cons]; omega
    omega
theorem TdAt.len {H : Hp} {vs : List V} {ts : List Td} (h : TdAt K H vs ts) : vs.length = ts.length := by
  induction h with
  | nil => rfl
  | str _ ih => simp [ih]
  | tree _ _ _ _ ih => simp [ih]
theorem joined_two {c n : Str} {σ : L2.St} {H : Hp} {i : Nat} {Q : VK} (hs : σ[i]? = some (some (.str n))) (hc : c.length ≤ 1) (hn : n.length ≤ 100) (q : Q (.str (c ++ n)) H) : tJoined [tC (.str c), tFmt (tVar i)] σ H Q := by
  have hz := sizeLine_eq
  have e0 : Str.empty ++ c = c := str_ext (by rw [tl_app]; rfl)
  have l2 : (c ++ n).length = c.length + n.length := by rw [len_tl, tl_app, List.length_append, ← len_tl, ← len_tl]
  show ∃ y : Str, V.str c = .str y ∧ (Str.empty ++ y).length ≤ sizeLine ∧ _
  refine ⟨c, rfl, by rw [e0]; omega, .str n, hs, .inl ⟨n, rfl, by omega, n, rfl, ?_, ?_⟩⟩
  · rw [e0, l2]; omega
  · rw [e0]; exact q
def RowInv (K : PySem.W.Frag) (H : Hp) (a rn tn : Addr) (f : Fo) (m : Nat) (σ : L2.St) (H4 : Hp) : Prop :=
  ∃ xs ws ts x y z, Kp H H4 ∧ H4 rn = some (.lst (xs.map V.str)) ∧ H4 tn = some (.lst ws.reverse) ∧ TdAt K H4 ws ts ∧ xs ++ (ts.map tdOut).flatten = f.row ∧ (∀ t ∈ ts, TdOk t) ∧ m = ((ts.map tdOut).flatten).length ∧
    σ = [some (.ref a), some (.ref rn), some (.ref tn), x, y, z]
theorem pure_row_of (vs : List V) (H : Hp) (Q : VK) (E : XK) (h : sp_row_of K vs H Q E) : t_row_of K { nx := fun _ H' => Q .non H', rt := Q } (startN 6 vs) H := by
  obtain ⟨a, f, rfl, ⟨fv, ha, rp⟩, hsz, hnm, q⟩ := h
  show t_row_of K _ [some (.ref a), none, none, none, none, none] H
  unfold t_row_of
  have hz := sizeLine_eq
  have hrl := row_len f
  walk_at "rd"
  refine ⟨Nat.zero_le _, fun rn hrn => ?_⟩
  generalize hG : upd H rn _ = H1
  obtain ⟨k1, e1⟩ := gen_new hrn hG
  clear hG
  rw [o_revT]
  walk_at "rd"
  refine ⟨a, _, rfl, Tk.kp k1 _ _ ha, fun p1 hp1 => ?_⟩
  generalize hG : upd H1 p1 _ = H2
  obtain ⟨k2, e2⟩ := gen_new hp1 hG
  clear hG
  refine ⟨p1, _, rfl, .inr (SqT.of e2), fun tn htn => ?_⟩
  generalize hG : upd H2 tn _ = H3
  obtain ⟨k3, e3⟩ := gen_new htn hG
  clear hG
  have k03 : Kp H H3 := fun b o e => k3 _ _ (k2 _ _ (k1 _ _ e))
  have rntn : rn ≠ tn := ne_of_none (k2 _ _ e1) htn
  have rnH : H rn = none := hrn
  have tnH : H tn = none := Kp.free (fun b o e => k2 _ _ (k1 _ _ e)) htn
  walk_at "rd"
  refine ⟨RowInv K H a rn tn f, ?_, ?_⟩
  · refine ⟨_, [], fv, trees f, _, _, _, k03, k3 _ _ (k2 _ _ e1), e3, ?_, by rw [List.nil_append, trees_out], trees_ok hnm, rfl, rfl⟩
    have := TdAt.of (rp.mono (Tk.kp k03)) (TdAt.nil (K := K))
    rwa [List.append_nil, List.append_nil] at this
  · rintro m σ H4 ⟨xs, ws, ts, x, y, z, k4, hr4, ht4, td, hrow, hok, rfl, rfl⟩
    rw [o_tru]
    walk_at "rd"
    refine ⟨!ws.reverse.isEmpty, .inl ⟨_, SqL.of ht4, rfl⟩, ?_⟩
    have hlx : xs.length + ((ts.map tdOut).flatten).length = 2 * f.nm.length := by rw [← List.length_append, hrow, hrl]
    cases td with
    | nil =>
      simp only [List.reverse_nil, List.isEmpty_nil, Bool.not_true, Bool.false_eq_true, if_false]
      refine ⟨rn, _, rfl, .inl ⟨SqL.of hr4, fun p hp => ?_⟩⟩
      generalize hG : upd H4 p _ = H5
      obtain ⟨k5, e5⟩ := gen_new hp hG
      clear hG
      have e6 : xs = f.row := by simpa using hrow
      exact q p H5 (fun b o e => k5 _ _ (k4 _ _ e)) (by rw [← e6]; exact SqT.of e5)
    | @str s vs ts td =>
      have hne : (!((V.str s :: vs).reverse).isEmpty) = true := by simp
      rw [hne, if_pos rfl]
      refine ⟨RowInv K H a rn tn f ((ts.map tdOut).flatten).length, fun σ' H' w => ⟨_, ?_, w⟩, ?_⟩
      rotate_left
      · unfold t_row_of_b1
        walk_at "rd"
        have hl : ((V.str s :: vs).reverse)[((V.str s :: vs).reverse).length - 1]? = some (.str s) := by simp
        refine ⟨.inl ⟨rfl, _, SqL.of ht4⟩, tn, _, _, rfl, rfl, ht4, hl, ?_⟩
        rw [List.reverse_cons, List.dropLast_concat]
        generalize hG : upd H4 tn _ = H5
        obtain ⟨k5, e5⟩ := gen_chg hG
        clear hG
        walk_at "rd"
        refine o_isiS ?_
        walk_at "rd"
        have hr5 := k5 _ _ hr4 rntn
        have hl1 : ((tdOut (.inl s) :: ts.map tdOut).flatten).length = 1 + ((ts.map tdOut).flatten).length := by rw [List.flatten_cons, List.length_append]; rfl
        rw [List.map_cons] at hlx hrow
        rw [hl1] at hlx
        refine ⟨.inl ⟨rfl, _, SqL.of hr5⟩, rn, _, _, rfl, rfl, hr5, by rw [List.length_map]; omega, ?_⟩
        generalize hG : upd H5 rn _ = H6
        obtain ⟨k6, e6⟩ := gen_chg hG
        clear hG
        refine ⟨xs ++ [s], vs, ts, _, _, _, fun b o e => k6 _ _ (k5 _ _ (k4 _ _ e) (ne_of_none e tnH)) (ne_of_none e rnH), by rw [e6]; simp, k6 _ _ e5 rntn.symm, td.mono ((Tk.but (.inl ⟨_, ht4⟩) k5).trans (Tk.but (.inl ⟨_, hr5⟩) k6)), ?_, fun t ht => hok t (List.mem_cons_of_mem _ ht), rfl, rfl⟩
        rw [List.append_assoc]; exact hrow
      · rw [List.map_cons, List.flatten_cons, List.length_append]
        show _ < 1 + _
        omega
    | @tree t k n kvs vs ks ts at_ ak rk td =>
      have hne : (!((V.ref t :: vs).reverse).isEmpty) = true := by simp
      rw [hne, if_pos rfl]
      have hout : ((tdOut (.inr (n, ks)) :: ts.map tdOut).flatten) = Fo.plus n :: ((((trees ks ++ (.inl (Fo.minus n) :: ts)).map tdOut).flatten)) := by
        rw [List.map_append, List.flatten_append, trees_out]
        show (Fo.cons n ks .nil).row ++ _ = Fo.plus n :: (ks.row ++ (Fo.minus n :: _))
        simp [Fo.row]
      rw [List.map_cons, hout] at hlx hrow
      rw [List.length_cons] at hlx
      refine ⟨RowInv K H a rn tn f (((trees ks ++ (.inl (Fo.minus n) :: ts)).map tdOut).flatten.length), fun σ' H' w => ⟨_, ?_, w⟩, ?_⟩
      · rw [List.map_cons, hout, List.length_cons]; exact Nat.lt_succ_self _
      · unfold t_row_of_b1
        walk_at "rd"
        have hl : ((V.ref t :: vs).reverse)[((V.ref t :: vs).reverse).length - 1]? = some (.ref t) := by simp
        refine ⟨.inl ⟨rfl, _, SqL.of ht4⟩, tn, _, _, rfl, rfl, ht4, hl, ?_⟩
        rw [List.reverse_cons, List.dropLast_concat]
        generalize hG : upd H4 tn _ = H5
        obtain ⟨k5, e5⟩ := gen_chg hG
        clear hG
        have t45 : Tk K H4 H5 := Tk.but (.inl ⟨_, ht4⟩) k5
        walk_at "rd"
        refine o_isiN (sqt_noStr (t45 _ _ at_)) ?_
        walk_at "rd"
        simp only [Bool.false_eq_true, if_false]
        have hr5 := k5 _ _ hr4 rntn
        have hn100 : n.length ≤ 100 := hok _ (List.mem_cons_self ..) n (List.mem_cons_self ..)
        have l1 : (("+" : Str)).length = 1 := by decide +kernel
        have l2 : (("-" : Str)).length = 1 := by decide +kernel
        refine ⟨t, _, rfl, t45 _ _ at_, rfl, _, _, rfl, _, _, rfl, rfl, ?_⟩
        refine ⟨.inl ⟨rfl, _, SqL.of hr5⟩, joined_two (n := n) rfl (by omega) hn100 ?_⟩
        refine ⟨rn, _, _, rfl, rfl, hr5, by rw [List.length_map]; omega, ?_⟩
        generalize hG : upd H5 rn _ = H6
        obtain ⟨k6, e6⟩ := gen_chg hG
        clear hG
        have ht6 := k6 _ _ e5 rntn.symm
        refine ⟨.inl ⟨rfl, _, SqL.of ht6⟩, joined_two (n := n) rfl (by omega) hn100 ?_⟩
        have hlt : ts.length + ks.tops.length + 1 ≤ ((trees ks ++ (.inl (Fo.minus n) :: ts)).map tdOut).flatten.length := by
          refine Nat.le_trans (Nat.le_of_eq ?_) (td_le _)
          rw [List.length_append, List.length_cons, trees_len]; omega
        refine ⟨tn, _, _, rfl, rfl, ht6, by rw [List.length_reverse, td.len]; omega, ?_⟩
        generalize hG : upd H6 tn _ = H7
        obtain ⟨k7, e7⟩ := gen_chg hG
        clear hG
        have t57 : Tk K H5 H7 := (Tk.but (.inl ⟨_, hr5⟩) k6).trans (Tk.but (.inl ⟨_, ht6⟩) k7)
        have t47 := t45.trans t57
        refine ⟨.inl ⟨rfl, _, SqL.of e7⟩, ?_⟩
        rw [o_revT]
        walk_at "rd"
        refine ⟨k, _, rfl, t47 _ _ ak, fun p8 hp8 => ?_⟩
        generalize hG : upd H7 p8 _ = H8
        obtain ⟨k8, e8⟩ := gen_new hp8 hG
        clear hG
        refine ⟨tn, p8, _, _, rfl, rfl, k8 _ _ e7, SqT.of e8, ?_, ?_⟩
        · rw [List.length_append, List.length_reverse, List.length_reverse, List.length_singleton, td.len, rk.len]; omega
        generalize hG : upd H8 tn _ = H9
        obtain ⟨k9, e9⟩ := gen_chg hG
        clear hG
        have t79 : Tk K H7 H9 := (Tk.kp k8).trans (Tk.but (.inl ⟨_, k8 _ _ e7⟩) k9)
        have t49 := t47.trans t79
        refine ⟨xs ++ [Fo.plus n], kvs ++ (V.str (Fo.minus n) :: vs), trees ks ++ (.inl (Fo.minus n) :: ts), _, _, _, ?_, ?_, ?_, TdAt.of (rk.mono t49) (.str (td.mono t49)), ?_, ?_, rfl, rfl⟩
        · exact fun b o e => k9 _ _ (k8 _ _ (k7 _ _ (k6 _ _ (k5 _ _ (k4 _ _ e) (ne_of_none e tnH)) (ne_of_none e rnH)) (ne_of_none e tnH))) (ne_of_none e tnH)
        · rw [k9 _ _ (k8 _ _ (k7 _ _ e6 rntn)) rntn]; simp [Fo.plus]
        · rw [e9]; simp [Fo.minus]
        · rw [List.append_assoc]; exact hrow
        · intro t' ht'
          rcases List.mem_append.mp ht' with h | h
          · refine trees_ok (fun m hm => ?_) t' h
            exact hok _ (List.mem_cons_self ..) m (List.mem_cons_of_mem _ (List.mem_append_left _ hm))
          · rcases List.mem_cons.mp h with h | h
            · subst h
              show (("-" : Str) ++ n).length ≤ 200
              rw [len_tl, tl_app, List.length_append, ← len_tl, ← len_tl]; omega
            · exact hok t' (List.mem_cons_of_mem _ h)
where
  trees_len : ∀ {f : Fo}, (trees f).length = f.tops.length
    | .nil => rfl
    | .cons n ks r => by show (trees r).length + 1 = r.tops.length + 1; rw [trees_len]
end
end Tw
set_option Elab.async false
set_option linter.all false
set_option maxRecDepth 100000
set_option maxHeartbeats 4000000
/-! equal woods, equal rows; what a law promises -/
namespace Tw
open PySem PySem.Spec PyProof.Rows L2 TL
theorem data_lay : ∀ f : Fo, (∀ z ∈ f.nm, IsName z) → PyData.canLayAll0 f.data = true
  | .nil, _ => by simp [Fo.data, PyData.canLayAll0]
  | .cons n ks r, h => by
    have h1 := strOk_of (h n (List.mem_cons_self ..))
    have h2 := data_lay ks fun z hz => h z (List.mem_cons_of_mem _ (List.mem_append_left _ hz))
    have h3 := data_lay r fun z hz => h z (List.mem_cons_of_mem _ (List.mem_append_right _ hz))
    simp [Fo.data, PyData.canLayAll0, PyData.canLay0, h1, h2, h3]
theorem data_depth : ∀ f : Fo, PyData.depthAll f.data ≤ 2 * f.dp
  | .nil => by simp [Fo.data, PyData.depthAll]
  | .cons n ks r => by
    have h2 := data_depth ks
    have h3 := data_depth r
    simp only [Fo.data, PyData.depthAll, PyData.depth, Fo.dp]
    omega
theorem strs_dp {K : PySem.W.Frag} {H : Hp} : ∀ zs : List Str, DpAll K H (zs.map V.str) (zs.map PyData.str)
  | [] => .nil
  | z :: zs => .cons (.str z) (strs_dp zs)
theorem Dk.tk {K : PySem.W.Frag} {a : Addr} {H H' : Hp} (k : Dk a H H') (hd : DeckAt H a) : Tk K H H' := by
  obtain ⟨x, y, z, hd⟩ := hd
  exact Tk.but (.inl ⟨_, hd⟩) k.keep
section
variable {K : PySem.W.Frag} {H : Hp} {Q : VK}
end
end Tw
set_option Elab.async false
set_option linter.all false
set_option maxRecDepth 100000
set_option maxHeartbeats 4000000
/-! who lies in whom -/
namespace Tw
open PySem PySem.Spec PyProof.Rows L2 TL
local macro_rules | `(tactic| walk_at "rd") => `(tactic| try simp only [o_op, o_un, o_var, o_c, o_cb, o_call, o_cons, o_nil, o_tup, o_lst, o_I0, o_I, o_int1, o_intb, o_abs, o_test, o_b, o_not, o_and, o_or, o_andV, o_orV, o_notV, o_ifE, o_isN, o_notN, o_eq, o_ne, o_seq, o_next, o_asg, o_name, o_sub, o_par, o_par3, o_drop, o_ret, o_retN, o_ifS, o_sl, o_noPart, o_part, o_bm, o_bm0, o_m0, o_m1, o_dget, o_dput, o_din, o_dnotin, o_listKeys, e_bl, e_int, e_str, e_some, e_two, e_three, o_for, o_lc, o_iList, o_iTup, o_iRng1, e_int1, e_ref, o_yes, o_wipe0, o_wipe1, o_disp, o_dnew, o_pairs0, o_pairs1, o_lock, o_keysM, o_gtup, o_gcons, o_gnil, o_rU, o_tru, o_revT, o_enumT, o_from, true_and, if_pos, List.getElem?_cons_zero, List.getElem?_cons_succ, List.set_cons_zero, List.set_cons_succ, List.append_nil])
/-- each name with the name it lies in -/
def pars : Fo → V → List (Str × V)
  | .nil, _ => []
  | .cons n ks r, t => (n, t) :: (pars ks (.str n) ++ pars r t)
theorem pars_nm : ∀ (f : Fo) (t : V), (pars f t).map (·.1) = f.nm
  | .nil, _ => rfl
  | .cons n ks r, t => by simp only [pars, List.map_cons, List.map_append, pars_nm ks, pars_nm r]; rfl
/-- the same, from the ends that come and the names that are open, the innermost first -/
def rpar : List En → List V → List (Str × V)
  | [], _ => []
  | (true, n) :: es, st => (n, st.headD .non) :: rpar es (.str n :: st)
  | (false, _) :: es, st => rpar es st.tail
theorem rpar_app : ∀ (f : Fo) (es : List En) (t : V) (st : List V), rpar (f.erow ++ es) (t :: st) = pars f t ++ rpar es (t :: st)
  | .nil, _, _, _ => rfl
  | .cons n ks r, es, t, st => by
    show rpar ((true, n) :: ((ks.erow ++ (false, n) :: r.erow) ++ es)) (t :: st) = _
    rw [List.append_assoc]
    show (n, t) :: rpar (ks.erow ++ ((false, n) :: (r.erow ++ es))) (.str n :: t :: st) = _
    rw [rpar_app ks]
    show (n, t) :: (pars ks (.str n) ++ rpar (r.erow ++ es) (t :: st)) = _
    rw [rpar_app r]
    simp [pars]
/-- these ends close what is open -/
def Bal : List En → Nat → Prop
  | [], _ => True
  | (true, _) :: es, k => Bal es (k + 1)
  | (false, _) :: es, k => ∃ j, k = j + 1 ∧ Bal es j
theorem bal_app : ∀ (f : Fo) (es : List En) (k : Nat), Bal es k → Bal (f.erow ++ es) k
  | .nil, _, _, h => h
  | .cons n ks r, es, k, h => by
    show Bal ((true, n) :: ((ks.erow ++ (false, n) :: r.erow) ++ es)) k
    rw [List.append_assoc]
    exact bal_app ks ((false, n) :: (r.erow ++ es)) (k + 1) ⟨k, rfl, bal_app r es k h⟩
theorem bal_row (f : Fo) : Bal f.erow 0 := by
  have := bal_app f [] 0 trivial
  rwa [List.append_nil] at this
abbrev pk (ps : List (Str × V)) : List (Key × V) := ps.map fun p => ((Sum.inr p.1 : Key), p.2)
theorem valV_pk (n : Str) : ∀ ps : List (Str × V), valV (pk ps) (Sum.inr n) = (ps.find? fun p => p.1 = n).map (·.2)
  | [] => rfl
  | p :: ps => by
    by_cases e : p.1 = n
    · rw [show pk (p :: ps) = ((Sum.inr p.1 : Key), p.2) :: pk ps from rfl, valV_pos (by rw [e])]
      simp [List.find?_cons, e]
    · rw [show pk (p :: ps) = ((Sum.inr p.1 : Key), p.2) :: pk ps from rfl, valV_neg (fun z => e (Sum.inr.inj z)), valV_pk n ps]
      simp [List.find?_cons, e]
theorem pk_none {n : Str} {ps : List (Str × V)} (h : n ∉ ps.map (·.1)) : valV (pk ps) (Sum.inr n) = none := by
  rw [valV_pk, Option.map_eq_none_iff, List.find?_eq_none]
  intro p hp
  simp only [decide_eq_true_eq]
  exact fun e => h (e ▸ List.mem_map_of_mem hp)
theorem pk_some {n : Str} {v : V} : ∀ {ps : List (Str × V)}, (ps.map (·.1)).Nodup → (n, v) ∈ ps → valV (pk ps) (Sum.inr n) = some v
  | p :: ps, nd, h => by
    rw [show pk (p :: ps) = ((Sum.inr p.1 : Key), p.2) :: pk ps from rfl]
    rw [List.map_cons, List.nodup_cons] at nd
    rcases List.mem_cons.mp h with h | h
    · subst h; exact valV_pos rfl
    · have : ¬ p.1 = n := fun e => nd.1 (e ▸ List.mem_map_of_mem (f := (·.1)) h)
      rw [valV_neg (fun z => this (Sum.inr.inj z))]
      exact pk_some nd.2 h
def sp_parents_of (K : PySem.W.Frag) : Sp := fun vs H Q _ => ∃ a f, vs = [.ref a] ∧ WoodAt K H a f ∧ NameOk f ∧ ∀ p H', Kp H H' → H p = none → H' p = some (.dK (pk (pars f .non))) → Q (.ref p) H'
/-- the names that lie right in v -/
def filt (ps : List (Str × V)) (v : V) : List Str := (ps.filter fun p => p.2 = v).map (·.1)
def t_parents_of_b1 (K : PySem.W.Frag) : TS :=
  (tIfS (tTest (tOp rEq (tOp rIxS (tVar 3) (tC (.int 0))) (tC (.str "+")))) (tSeq (sDPut (tVar 1) (L2.tSl rSlS (tVar 3) (tPart (tC (.int 1))) tNoPart) (tOp (rIxL K) (tVar 2) (tUn (rU fun i => .int (-i)) (tC (.int 1)))))
  (tDrop (tBM K "list" rAppend (tVar 2) (tCons (L2.tSl rSlS (tVar 3) (tPart (tC (.int 1))) tNoPart) tNil)))) (tDrop (tBM0 K "list" rPop (tVar 2))))
def t_parents_of (K : PySem.W.Frag) : TS :=
  (tSeq (tAsg tDNewK (gName 1))
  (tSeq (tAsg (tLst (tCons (tC .non) tNil)) (gName 2))
  (tSeq (tFor (iTup K (tCall (sp_row_of K) [] E0 (tCons (tVar 0) tNil))) (gName 3)
  (t_parents_of_b1 K))
  (tRet (tVar 1)))))
section
variable {K : PySem.W.Frag}
theorem len_parents_of (vs : List V) (H : Hp) (Q : VK) (E : XK) (h : sp_parents_of K vs H Q E) : vs.length = 1 := by
  obtain ⟨_, _, rfl, _⟩ := h; rfl
theorem NameOk.short {f : Fo} (h : NameOk f) : ∀ z ∈ f.nm, z.length ≤ 100 := fun z hz => by have := (h.nms z hz).eight; omega
theorem at_last (xs : List V) (x : V) : atI (xs ++ [x]) (-1) = some x := by
  have e : ixN (xs ++ [x]).length (-1) = some xs.length := by
    unfold ixN
    simp only [List.length_append, List.length_singleton]
    rw [if_neg (by decide)]
    simp
    omega
  unfold atI
  rw [e]; simp
theorem pure_parents_of (vs : List V) (H : Hp) (Q : VK) (E : XK) (h : sp_parents_of K vs H Q E) : t_parents_of K { nx := fun _ H' => Q .non H', rt := Q } (startN 4 vs) H := by
  obtain ⟨a, f, rfl, ha, hf, q⟩ := h
  show t_parents_of K _ [some (.ref a), none, none, none] H
  unfold t_parents_of
  have hz := sizeLine_eq
  have hsz := hf.sz
  walk_at "rd"
  intro pd hpd
  generalize hG : upd H pd _ = H1
  obtain ⟨k1, e1⟩ := gen_new hpd hG
  clear hG
  refine ⟨by show 1 ≤ sizeLine; omega, fun an han => ?_⟩
  generalize hG : upd H1 an _ = H2
  obtain ⟨k2, e2⟩ := gen_new han hG
  clear hG
  have k02 : Kp H H2 := fun b o e => k2 _ _ (k1 _ _ e)
  have pdan : pd ≠ an := ne_of_none e1 han
  have anH : H an = none := Kp.free k1 han
  refine ⟨a, f, rfl, ha.mono (Tk.kp k02), hsz, hf.short, fun rp H3 k3 hr => ?_⟩
  walk_at "rd"
  refine ⟨⟨_, hr⟩, ?_⟩
  have hlen : f.erow.length = 2 * f.nm.length := by rw [← row_len f, Fo.row_erow, List.length_map]
  rw [Fo.row_erow, List.map_map] at hr
  refine fb_tup (xs := f.erow.map (V.str ∘ en)) (fun i σ H4 => ∃ dn st x, Kp H H4 ∧ Tk K H3 H4 ∧ H4 pd = some (.dK (pk dn)) ∧ H4 an = some (.lst st.reverse) ∧ dn ++ rpar (f.erow.drop i) st = pars f .non ∧ (∃ k, st.length = k + 1 ∧ Bal (f.erow.drop i) k) ∧ dn.length ≤ i ∧ st.length ≤ i + 1 ∧ i ≤ f.erow.length ∧
    σ = [some (.ref a), some (.ref pd), some (.ref an), x]) ?_ ?_ ?_ ?_
  · refine ⟨[], [.non], _, fun b o e => k3 _ _ (k02 _ _ e), Tk.refl, k3 _ _ (k2 _ _ e1), k3 _ _ e2, ?_, ⟨0, rfl, bal_row f⟩, Nat.le_refl _, Nat.le_refl _, Nat.zero_le _, rfl⟩
    have := rpar_app f [] .non []
    rw [List.append_nil] at this
    rw [List.nil_append, List.drop_zero, this]
    simp [rpar]
  · rintro i σ H4 _ ⟨dn, st, x, k4, t4, _⟩
    exact t4 _ _ hr
  · rintro i v σ H4 hx ⟨dn, st, x, k4, t4, hd4, ha4, hpar, ⟨k, hk, hbal⟩, hdl, hsl, hi, rfl⟩
    rw [List.getElem?_map, Option.map_eq_some_iff] at hx
    obtain ⟨e, he, rfl⟩ := hx
    rw [drop_at he] at hpar hbal
    have hi2 := (List.getElem?_eq_some_iff.mp he).1
    have hie : IsName e.2 := hf.nms _ (erow_nm f e (List.mem_of_getElem? he))
    have h8 := hie.eight
    unfold t_parents_of_b1
    walk_at "rd"
    refine o_ixS (by rw [en_len]; omega) (en_at0 e) ⟨rfl, ?_⟩
    obtain ⟨t, st', rfl⟩ : ∃ t st', st = t :: st' := by
      cases st with
      | nil => simp at hk
      | cons t st' => exact ⟨t, st', rfl⟩
    obtain ⟨b, n⟩ := e
    cases b with
    | true =>
      refine ite2 (fun _ => ?_) fun h => absurd (by simpa using p43) h
      walk_at "rd"
      rw [List.reverse_cons] at ha4
      refine ⟨an, _, _, _, rfl, rfl, SqL.of ha4, at_last _ t, ?_⟩
      refine ⟨en (true, n), rfl, by rw [en_len]; omega, ?_⟩
      rw [en_cut1]
      have hnn : n ∉ dn.map (·.1) := by
        have h1 : (dn ++ rpar ((true, n) :: f.erow.drop (i + 1)) (t :: st')).map (·.1) = f.nm := by rw [hpar, pars_nm]
        have h2 := hf.nd
        rw [← h1, List.map_append] at h2
        intro hm
        exact (List.nodup_append.mp h2).2.2 n hm n (List.mem_cons_self ..) rfl
      refine ⟨pd, _, rfl, DPut.k (k := (Sum.inr n : Key)) hd4 (by rw [List.length_map]; omega), ?_⟩
      rw [putK_new _ (pk_none hnn)]
      generalize hG : upd H4 pd _ = H5
      obtain ⟨k5, e5⟩ := gen_chg hG
      clear hG
      have ha5 := k5 _ _ ha4 pdan.symm
      refine ⟨.inl ⟨rfl, _, SqL.of ha5⟩, en (true, n), rfl, by rw [en_len]; omega, ?_⟩
      rw [en_cut1]
      refine ⟨an, _, _, rfl, rfl, ha5, by simp only [List.length_cons, List.length_append, List.length_reverse, List.length_nil] at hsl ⊢; omega, ?_⟩
      generalize hG : upd H5 an _ = H6
      obtain ⟨k6, e6⟩ := gen_chg hG
      clear hG
      refine ⟨dn ++ [(n, t)], .str n :: t :: st', _, fun b o e => k6 _ _ (k5 _ _ (k4 _ _ e) (ne_of_none e hpd)) (ne_of_none e anH), (t4.trans (Tk.but (.inr (.inl ⟨_, hd4⟩)) k5)).trans (Tk.but (.inl ⟨_, ha5⟩) k6), ?_, by rw [e6]; simp, ?_, ⟨k + 1, by simp only [List.length_cons] at hk ⊢; omega, hbal⟩, by rw [List.length_append, List.length_singleton]; omega, by simp only [List.length_cons] at hsl ⊢; omega, by omega, rfl⟩
      · rw [k6 _ _ e5 pdan]; simp
      · rw [List.append_assoc]; exact hpar
    | false =>
      obtain ⟨j, rfl, hbal⟩ := hbal
      refine ite2 (fun h => absurd (by simpa using h) p45) fun _ => ?_
      walk_at "rd"
      rw [List.reverse_cons] at ha4
      refine ⟨.inl ⟨rfl, _, SqL.of ha4⟩, an, _, t, rfl, rfl, ha4, by simp, ?_⟩
      rw [List.dropLast_concat]
      generalize hG : upd H4 an _ = H5
      obtain ⟨k5, e5⟩ := gen_chg hG
      clear hG
      exact ⟨dn, st', _, fun b o e => k5 _ _ (k4 _ _ e) (ne_of_none e anH), t4.trans (Tk.but (.inl ⟨_, ha4⟩) k5), k5 _ _ hd4 pdan, e5, hpar, ⟨j, by simp only [List.length_cons] at hk; omega, hbal⟩, by omega, by simp only [List.length_cons] at hsl; omega, by omega, rfl⟩
  · rintro σ H4 ⟨dn, st, x, k4, t4, hd4, ha4, hpar, _, _, _, _, rfl⟩
    rw [List.length_map, List.drop_length] at hpar
    walk_at "rd"
    have e : dn = pars f .non := by simpa [rpar] using hpar
    exact q pd H4 k4 hpd (by rw [← e]; exact hd4)
theorem o_keysD {td : TE} {σ : L2.St} {H : Hp} {R : It → Hp → Prop} : iKeys td σ H R = td σ H fun x H1 => ∃ d o, x = .ref d ∧ ((∃ kvs, H1 d = some (.frz o (.dK kvs)) ∧ R (Itk d o kvs) H1) ∨ ∃ kvs, H1 d = some (.frz o (.dT kvs)) ∧ R (Itkt d o kvs) H1) := rfl
theorem o_lockE {t : TE} {σ : L2.St} {H : Hp} {Q : VK} : tLockE t σ H Q = ∃ d u, H d = some u ∧ Mut (some u) ∧ ∀ od, t σ (upd H d (.frz od u)) fun v H' => H' d = some (.frz od u) ∧ Q v (upd H' d u) := rfl
/-- none or a text -/
def NS (v : V) : Prop := v = .non ∨ ∃ n, IsName n ∧ v = .str n
theorem eqv_str (n m : Str) : PyData.eqv (.str n) (.str m) = decide (V.str n = V.str m) := by
  by_cases h : n = m
  · subst h; simp [PyData.eqv]
  · have h2 : ¬ V.str n = V.str m := fun e => h (V.str.inj e)
    simp [PyData.eqv, h]
theorem ns_eq {x y : V} {H : Hp} {Q : VK} (hx : NS x) (hy : NS y) (q : Q (.bl (decide (x = y))) H) : rEqB K x y H Q := by
  rcases hx with rfl | ⟨n, hn, rfl⟩ <;> rcases hy with rfl | ⟨m, hm, rfl⟩
  · exact ⟨_, _, .non, .non, rfl, rfl, by simp [PyData.depth], by simpa [PyData.eqv] using q⟩
  · exact ⟨_, _, .non, .str m, rfl, strOk_of hm, by simp [PyData.depth], by simpa [PyData.eqv] using q⟩
  · exact ⟨_, _, .str n, .non, strOk_of hn, rfl, by simp [PyData.depth], by simpa [PyData.eqv] using q⟩
  · exact ⟨_, _, .str n, .str m, strOk_of hn, strOk_of hm, by simp [PyData.depth], by rw [eqv_str]; exact q⟩
theorem filt_take {ps : List (Str × V)} {i : Nat} {p : Str × V} {v : V} (h : ps[i]? = some p) : filt (ps.take (i + 1)) v = filt (ps.take i) v ++ (if decide (p.2 = v) then [p.1] else []) := by
  unfold filt
  rw [List.take_add_one, h, List.filter_append, List.map_append]
  congr 1
  by_cases e : p.2 = v
  · simp [e]
  · simp [e]
theorem filt_le (ps : List (Str × V)) (v : V) : (filt ps v).length ≤ ps.length := by
  unfold filt
  rw [List.length_map]
  exact List.length_filter_le _ _
end
end Tw
set_option Elab.async false
set_option linter.all false
set_option maxRecDepth 100000
set_option maxHeartbeats 4000000
/-! kids of names, names in their order, a pick -/
namespace Tw
open PySem PySem.Spec PyProof.Rows L2 TL
local macro_rules | `(tactic| walk_at "rd") => `(tactic| try simp only [o_op, o_un, o_var, o_c, o_cb, o_call, o_cons, o_nil, o_tup, o_lst, o_I0, o_I, o_int1, o_intb, o_abs, o_test, o_b, o_not, o_and, o_or, o_andV, o_orV, o_notV, o_ifE, o_isN, o_notN, o_eq, o_ne, o_seq, o_next, o_asg, o_name, o_sub, o_par, o_par3, o_drop, o_ret, o_retN, o_ifS, o_sl, o_noPart, o_part, o_bm, o_bm0, o_m0, o_m1, o_dget, o_dput, o_din, o_dnotin, o_listKeys, e_bl, e_int, e_str, e_some, e_two, e_three, o_for, o_lc, o_iList, o_iTup, o_iRng1, e_int1, e_ref, o_yes, o_wipe0, o_wipe1, o_disp, o_dnew, o_pairs0, o_pairs1, o_lock, o_keysM, o_gtup, o_gcons, o_gnil, o_rU, o_tru, o_revT, o_enumT, o_from, true_and, if_pos, List.getElem?_cons_zero, List.getElem?_cons_succ, List.set_cons_zero, List.set_cons_succ, List.append_nil])
theorem filt_app (a b : List (Str × V)) (v : V) : filt (a ++ b) v = filt a v ++ filt b v := by simp [filt]
theorem filt_cons (n : Str) (t v : V) (r : List (Str × V)) : filt ((n, t) :: r) v = (if t = v then [n] else []) ++ filt r v := by
  by_cases h : t = v <;> simp [filt, List.filter_cons, h]
theorem filt_no : ∀ {f : Fo} {t v : V}, v ≠ t → (∀ n ∈ f.nm, v ≠ .str n) → filt (pars f t) v = []
  | .nil, _, _, _, _ => rfl
  | .cons n ks r, t, v, h1, h2 => by
    rw [pars, filt_cons, if_neg h1.symm, filt_app, filt_no (h2 n (List.mem_cons_self ..)) fun m hm => h2 m (List.mem_cons_of_mem _ (List.mem_append_left _ hm)),
      filt_no h1 fun m hm => h2 m (List.mem_cons_of_mem _ (List.mem_append_right _ hm))]
    rfl
theorem filt_top : ∀ {f : Fo} {t : V}, (∀ n ∈ f.nm, t ≠ .str n) → filt (pars f t) t = f.tops
  | .nil, _, _ => rfl
  | .cons n ks r, t, h => by
    rw [pars, filt_cons, if_pos rfl, filt_app, filt_no (h n (List.mem_cons_self ..)) fun m hm => h m (List.mem_cons_of_mem _ (List.mem_append_left _ hm)),
      filt_top fun m hm => h m (List.mem_cons_of_mem _ (List.mem_append_right _ hm))]
    rfl
theorem filt_rep : ∀ {f : Fo} {t : V}, f.nm.Nodup → (∀ n ∈ f.nm, t ≠ .str n) → Fo.Rep (fun n => filt (pars f t) (.str n)) f
  | .nil, _, _, _ => trivial
  | .cons n ks r, t, nd, h => by
    have nd2 : (n :: (ks.nm ++ r.nm)).Nodup := nd
    rw [List.nodup_cons, List.nodup_append] at nd2
    obtain ⟨hn, ndk, ndr, dis⟩ := nd2
    have hk : ∀ m ∈ ks.nm, t ≠ .str m := fun m hm => h m (List.mem_cons_of_mem _ (List.mem_append_left _ hm))
    have hr : ∀ m ∈ r.nm, t ≠ .str m := fun m hm => h m (List.mem_cons_of_mem _ (List.mem_append_right _ hm))
    have hnt := h n (List.mem_cons_self ..)
    refine ⟨?_, ?_, ?_⟩
    · show filt (pars (.cons n ks r) t) (.str n) = ks.tops
      rw [pars, filt_cons, if_neg hnt, filt_app, filt_top (fun m hm e => hn (List.mem_append_left _ (by rw [V.str.inj e]; exact hm))), filt_no hnt.symm fun m hm e => hn (List.mem_append_right _ (by rw [V.str.inj e]; exact hm))]
      simp
    · refine Fo.Rep.congr (filt_rep (f := ks) (t := .str n) ndk fun m hm e => hn (List.mem_append_left _ (by rw [V.str.inj e]; exact hm))) fun m hm => ?_
      show filt (pars (.cons n ks r) t) (.str m) = _
      rw [pars, filt_cons, if_neg (hk m hm), filt_app, filt_no (f := r) (hk m hm).symm fun l hl e => dis m hm l hl (V.str.inj e)]
      simp
    · refine Fo.Rep.congr (filt_rep (f := r) (t := t) ndr hr) fun m hm => ?_
      show filt (pars (.cons n ks r) t) (.str m) = _
      rw [pars, filt_cons, if_neg (hr m hm), filt_app, filt_no (f := ks) (fun e => hn (List.mem_append_right _ (by rw [← V.str.inj e]; exact hm))) fun l hl e => dis l hl m hm (V.str.inj e).symm]
      simp
/-- what lies right in a node, in the whole for "" -/
def gOf (f : Fo) (n : Str) : List Str := if n = "" then f.tops else filt (pars f .non) (.str n)
theorem gOf_rep {f : Fo} (h : NameOk f) : f.Rep (gOf f) :=
  Fo.Rep.congr (filt_rep (t := .non) h.nd fun n _ e => by cases e) fun n hn => by unfold gOf; rw [if_neg (h.nms n hn).ne]
/-! ### kids -/
section
variable {K : PySem.W.Frag}
theorem Rp.tree {H : Hp} : ∀ {i : Nat} {vs : List V} {f : Fo} {n : Str}, Rp K H vs f → f.tops[i]? = some n → ∃ (t k : Addr), vs[i]? = some (.ref t) ∧ SqT K H t [.str n, .ref k]
  | _, _, _, _, .nil, h => by simp [Fo.tops] at h
  | 0, _, _, _, .cons (t := t) (k := k) a _ _ _, h => by
    have e := Option.some.inj (show some _ = some _ from h)
    exact ⟨t, k, rfl, by rw [← e]; exact a⟩
  | i + 1, _, _, _, .cons _ _ _ d, h => by
    obtain ⟨t, k, h1, h2⟩ := Rp.tree (i := i) d (by simpa [Fo.tops] using h)
    exact ⟨t, k, by simpa using h1, h2⟩
theorem Fo.Rep.app {g : Str → List Str} : ∀ {a b : Fo}, a.Rep g → b.Rep g → (a.app b).Rep g
  | .nil, _, _, h => h
  | .cons _ _ _, _, ⟨h1, h2, h3⟩, h => ⟨h1, h2, Fo.Rep.app h3 h⟩
/-- a forest that is not empty has a last tree -/
theorem Fo.last : ∀ f : Fo, f = .nil ∨ ∃ (g : Fo) (n : Str) (ks : Fo), f = g.app (.cons n ks .nil)
  | .nil => .inl rfl
  | .cons n ks r => by
    rcases Fo.last r with e | ⟨g, m, k2, e⟩
    · exact .inr ⟨.nil, n, ks, by rw [e]; rfl⟩
    · exact .inr ⟨.cons n ks g, m, k2, by rw [e]; rfl⟩
end
end Tw
set_option Elab.async false
set_option linter.all false
set_option maxRecDepth 100000
set_option maxHeartbeats 4000000
/-! names in their order, a pick -/
namespace Tw
open PySem PySem.Spec PyProof.Rows L2 TL
local macro_rules | `(tactic| walk_at "rd") => `(tactic| try simp only [o_op, o_un, o_var, o_c, o_cb, o_call, o_cons, o_nil, o_tup, o_lst, o_I0, o_I, o_int1, o_intb, o_abs, o_test, o_b, o_not, o_and, o_or, o_andV, o_orV, o_notV, o_ifE, o_isN, o_notN, o_eq, o_ne, o_seq, o_next, o_asg, o_name, o_sub, o_par, o_par3, o_drop, o_ret, o_retN, o_ifS, o_sl, o_noPart, o_part, o_bm, o_bm0, o_m0, o_m1, o_dget, o_dput, o_din, o_dnotin, o_listKeys, e_bl, e_int, e_str, e_some, e_two, e_three, o_for, o_lc, o_iList, o_iTup, o_iRng1, e_int1, e_ref, o_yes, o_wipe0, o_wipe1, o_disp, o_dnew, o_pairs0, o_pairs1, o_lock, o_keysM, o_gtup, o_gcons, o_gnil, o_rU, o_tru, o_revT, o_enumT, o_from, true_and, if_pos, List.getElem?_cons_zero, List.getElem?_cons_succ, List.set_cons_zero, List.set_cons_succ, List.append_nil])
def sp_l_pick (K : PySem.W.Frag) : Sp := fun vs H Q _ => ∃ (a l : Addr) (xs : List V), vs = [.ref a, .ref l] ∧ DeckAt H a ∧ SqL K H l xs ∧ l ≠ a ∧ xs ≠ [] ∧ xs.length ≤ 1000000 ∧ ∀ (x : V) (H' : Hp), x ∈ xs → Dk a H H' → Q x H'
def t_l_pick (K : PySem.W.Frag) : TS :=
  (tRet (tOp (rIxL K) (tVar 1) (tCall sp_l_draw [] E0 (tCons (tVar 0) (tCons (tCB (rLenSeq K) (tCons (tVar 1) tNil)) tNil)))))
section
variable {K : PySem.W.Frag}
theorem len_l_pick (vs : List V) (H : Hp) (Q : VK) (E : XK) (h : sp_l_pick K vs H Q E) : vs.length = 2 := by
  obtain ⟨_, _, _, rfl, _⟩ := h
  rfl
theorem pure_l_pick (vs : List V) (H : Hp) (Q : VK) (E : XK) (h : sp_l_pick K vs H Q E) : t_l_pick K { nx := fun _ H' => Q .non H', rt := Q } (startN 2 vs) H := by
  obtain ⟨a, l, xs, rfl, hd, hl, hla, hne, hsz, q⟩ := h
  show t_l_pick K _ [some (.ref a), some (.ref l)] H
  unfold t_l_pick
  walk_at "rd"
  refine ⟨l, _, rfl, .inl hl, ?_⟩
  have h1 : 1 ≤ xs.length := by cases xs with | nil => exact absurd rfl hne | cons _ _ => simp
  refine o_draw hd (by omega) (by omega) fun c H1 c0 c1 k1 => ?_
  obtain ⟨j, rfl⟩ : ∃ j : Nat, c = (j : Int) := ⟨c.toNat, by omega⟩
  have hj : j < xs.length := by omega
  exact o_ixLq (SqL.keep hl hla k1.keep) (atI_nat (v := xs[j]) (List.getElem?_eq_getElem hj)) (q _ H1 (List.getElem_mem hj) k1)
end
end Tw
set_option Elab.async false
set_option linter.all false
set_option maxRecDepth 100000
set_option maxHeartbeats 4000000
/-! skeletons and gaps -/
namespace Tw
open PySem PySem.Spec PyProof.Rows L2 TL
local macro_rules | `(tactic| walk_at "rd") => `(tactic| try simp only [o_op, o_un, o_var, o_c, o_cb, o_call, o_cons, o_nil, o_tup, o_lst, o_I0, o_I, o_int1, o_intb, o_abs, o_test, o_b, o_not, o_and, o_or, o_andV, o_orV, o_notV, o_ifE, o_isN, o_notN, o_eq, o_ne, o_seq, o_next, o_asg, o_name, o_sub, o_par, o_par3, o_drop, o_ret, o_retN, o_ifS, o_sl, o_noPart, o_part, o_bm, o_bm0, o_m0, o_m1, o_dget, o_dput, o_din, o_dnotin, o_listKeys, e_bl, e_int, e_str, e_some, e_two, e_three, o_for, o_lc, o_iList, o_iTup, o_iRng1, e_int1, e_ref, o_yes, o_wipe0, o_wipe1, o_disp, o_dnew, o_pairs0, o_pairs1, o_lock, o_keysM, o_gtup, o_gcons, o_gnil, o_rU, o_tru, o_revT, o_enumT, o_from, true_and, if_pos, List.getElem?_cons_zero, List.getElem?_cons_succ, List.set_cons_zero, List.set_cons_succ, List.append_nil])
namespace Fo
/-- the wood of the names in S alone -/
def skel (S : List Str) : Fo → Fo
  | nil => nil
  | cons n ks r => if n ∈ S then cons n (skel S ks) (skel S r) else (skel S ks).app (skel S r)
theorem erow_app : ∀ f g : Fo, (f.app g).erow = f.erow ++ g.erow
  | nil, _ => rfl
  | cons n ks r, g => by simp only [app, erow, erow_app r g, List.cons_append, List.append_assoc]
theorem erow_skel (S : List Str) : ∀ f : Fo, (skel S f).erow = f.erow.filter fun e => decide (e.2 ∈ S)
  | nil => rfl
  | cons n ks r => by
    unfold skel
    by_cases h : n ∈ S
    · rw [if_pos h]
      simp only [erow, List.filter_cons, h, decide_true, if_true, List.filter_append, erow_skel S ks, erow_skel S r]
    · rw [if_neg h, erow_app, erow_skel S ks, erow_skel S r]
      simp only [erow, List.filter_cons, h, decide_false, Bool.false_eq_true, if_false, List.filter_append]
theorem nm_skel (S : List Str) (f : Fo) : (skel S f).nm = f.nm.filter fun n => decide (n ∈ S) := by
  rw [← pls_row, erow_skel, ← pls_row]
  unfold pls
  rw [List.filter_filter, List.filter_map, List.filter_filter]
  congr 1
  congr 1
  funext e
  exact Bool.and_comm _ _
end Fo
theorem NameOk.skel {f : Fo} (h : NameOk f) (S : List Str) : NameOk (f.skel S) := by
  have e := Fo.nm_skel S f
  refine ⟨by rw [e]; exact h.nd.filter _, fun z hz => ?_, ?_⟩
  · rw [e] at hz
    exact h.nms z (List.mem_filter.mp hz).1
  · rw [e]
    have := List.length_filter_le (fun n => decide (n ∈ S)) f.nm
    have := h.sz
    omega
/-- the ends between those of S -/
def gapL (S : List Str) : List En → List Str → List (List Str)
  | [], cur => [cur]
  | e :: es, cur => if e.2 ∈ S then cur :: gapL S es [] else gapL S es (cur ++ [en e])
theorem gapL_cons (S : List Str) (e : En) (es : List En) (cur : List Str) : gapL S (e :: es) cur = if e.2 ∈ S then cur :: gapL S es [] else gapL S es (cur ++ [en e]) := rfl
/-- these values are tuples of these texts -/
inductive Gs (K : PySem.W.Frag) (H : Hp) : List V → List (List Str) → Prop where
  | nil : Gs K H [] []
  | cons {p : Addr} {g : List Str} {vs : List V} {gs : List (List Str)} : SqT K H p (g.map V.str) → Gs K H vs gs → Gs K H (.ref p :: vs) (g :: gs)
theorem Gs.mono {K : PySem.W.Frag} {H H' : Hp} (t : Tk K H H') {vs : List V} {gs : List (List Str)} (h : Gs K H vs gs) : Gs K H' vs gs := by
  induction h with
  | nil => exact .nil
  | cons a _ ih => exact .cons (t _ _ a) ih
theorem Gs.len {K : PySem.W.Frag} {H : Hp} {vs : List V} {gs : List (List Str)} (h : Gs K H vs gs) : vs.length = gs.length := by
  induction h with
  | nil => rfl
  | cons _ _ ih => simp [ih]
theorem Gs.snoc {K : PySem.W.Frag} {H : Hp} {vs : List V} {gs : List (List Str)} {p : Addr} {g : List Str} (h : Gs K H vs gs) (hp : SqT K H p (g.map V.str)) : Gs K H (vs ++ [.ref p]) (gs ++ [g]) := by
  induction h with
  | nil => exact .cons hp .nil
  | cons a _ ih => exact .cons a ih
abbrev gdata (gs : List (List Str)) : List PyData := gs.map fun g => .tuple (g.map PyData.str)
theorem Gs.dp {K : PySem.W.Frag} {H : Hp} {vs : List V} {gs : List (List Str)} (h : Gs K H vs gs) : DpAll K H vs (gdata gs) := by
  induction h with
  | nil => exact .nil
  | cons a _ ih => exact .cons (.tup a (strs_dp _)) ih
section
variable {K : PySem.W.Frag}
end
end Tw
set_option Elab.async false
set_option linter.all false
set_option maxRecDepth 100000
set_option maxHeartbeats 4000000
/-! deeds as the laws draw them -/
namespace Tw
open PySem PySem.Spec PyProof.Rows L2 TL
local macro_rules | `(tactic| walk_at "rd") => `(tactic| try simp only [o_op, o_un, o_var, o_c, o_cb, o_call, o_cons, o_nil, o_tup, o_lst, o_I0, o_I, o_int1, o_intb, o_abs, o_test, o_b, o_not, o_and, o_or, o_andV, o_orV, o_notV, o_ifE, o_isN, o_notN, o_eq, o_ne, o_seq, o_next, o_asg, o_name, o_sub, o_par, o_par3, o_drop, o_ret, o_retN, o_ifS, o_sl, o_noPart, o_part, o_bm, o_bm0, o_m0, o_m1, o_dget, o_dput, o_din, o_dnotin, o_listKeys, e_bl, e_int, e_str, e_some, e_two, e_three, o_for, o_lc, o_iList, o_iTup, o_iRng1, e_int1, e_ref, o_yes, o_wipe0, o_wipe1, o_disp, o_dnew, o_pairs0, o_pairs1, o_lock, o_keysM, o_gtup, o_gcons, o_gnil, o_rU, o_tru, o_revT, o_enumT, o_from, true_and, if_pos, List.getElem?_cons_zero, List.getElem?_cons_succ, List.set_cons_zero, List.set_cons_succ, List.append_nil])
section
variable {X : Cx} {CX : CXT} {k : Nat} {sp : Sp} {E : XK} {x : Str} {p pos : Pos}
end
/-- the thirteen words -/
def words : List Str := ["first", "last", "ahead", "behind", "front", "back", "swap", "turn", "lift", "cut", "pour", "wrap", "put"]
def words1 : List Str := ["front", "back", "lift", "cut"]
/-- a deed: its word, its names -/
structure Deed where
  word : Str
  names : List Str
/-- as many names as the word wants -/
structure Deed.Ok (d : Deed) (zs : List Str) : Prop where
  word : d.word ∈ words
  many : d.names.length = if d.word ∈ words1 then 1 else 2
  nms : ∀ n ∈ d.names, n ∈ zs
/-- the tuple at a is the deed -/
def DeedAt (K : PySem.W.Frag) (H : Hp) (a : Addr) (d : Deed) : Prop := SqT K H a (.str d.word :: d.names.map V.str)
section
variable {K : PySem.W.Frag}
end
end Tw
set_option Elab.async false
set_option linter.all false
set_option maxRecDepth 100000
set_option maxHeartbeats 4000000
/-! errors of the text's own classes: made, raised, caught -/
namespace Tw
open PySem PySem.Spec PyProof.Rows L2
/-! ### what the written part says of a class with an __init__ over ValueError -/
def clsShape (K : PySem.W.Frag) (C : Addr) : Bool := match K.lookup C with
  | some ⟨.type "type", _, .cls cd, sl⟩ => (match cd.mro, sl.toList with
    | .ref C' :: bm, [_, _, _, _, some (.builtin n), _] => C' == C && n == "ValueError.__new__" && !cd.hasDel && cd.hasDict && PySem.HandSPX.refsVE bm
    | _, _ => false)
  | _ => false
def oexB (K : PySem.W.Frag) (C : Addr) : Bool := clsShape K C && (decide (PySem.W.findIn K (.ref C) "__setattr__" = some (some (.builtin "object.__setattr__"))) && (decide (PySem.W.subIn K (.ref C) (.type "BaseException") = some true) && (decide (PySem.W.typeIn K (.ref C) = some (.type "type")) && PySem.W.keepIn K (.ref C))))
/-- what isinstance asks of the class -/
def excB (K : PySem.W.Frag) (D : Addr) : Bool := xfB K D && (decide (PySem.W.findIn K (.ref D) "__class__" = some (some (.builtin "object.__class__"))) && (decide (PySem.W.specialIn K (.builtin "object.__class__") "__get__" = some (some (.builtin "getset_descriptor.__get__"))) &&
  (decide (PySem.W.takesIn K (.builtin "object.__class__") = some true) && decide (PySem.W.mroIn K D (.type "object") = some true))))
theorem excB_ok {K : PySem.W.Frag} {D : Addr} (h : excB K D = true) : ExcC K D := by
  obtain ⟨h1, h⟩ := Bool.and_eq_true_iff.mp h
  obtain ⟨h2, h⟩ := Bool.and_eq_true_iff.mp h
  obtain ⟨h3, h⟩ := Bool.and_eq_true_iff.mp h
  obtain ⟨h4, h5⟩ := Bool.and_eq_true_iff.mp h
  have x := xfB_ok h1
  exact ⟨x.ga, x.gg, x.exC, x.hdC, of_decide_eq_true h2, of_decide_eq_true h3, of_decide_eq_true h4, of_decide_eq_true h5⟩
/-! ### raise -/
/-- raise e, e makes t: what leaves the def is E's business -/
def tRaise (E : XK) (t : L2.St → Hp → XK → Prop) : TS := fun _ σ H => t σ H fun cls d H' => E cls d H'
/-- C(x), C's own __init__ storing x under f -/
def tMk1 (C : Addr) (f : Str) (te : TE) : L2.St → Hp → XK → Prop := fun σ H Q => te σ H fun v H1 => ∀ d, H1 d = none → Q (.ref C) (some d) (upd H1 d (.xd [(f, v)]))
/-- __init__(self, x): self.f = x -/
def sp_init1 (K : PySem.W.Frag) (C : Addr) (f : Str) : Sp := fun vs H Q _ => ∃ a v, vs = [.ref a, v] ∧ OexC K C ∧ PySem.W.findIn K (.ref C) f = some none ∧ H a = some (exo a C none) ∧ ∀ dx, H dx = none → dx ≠ a → Q .non (upd (upd H dx (exd dx [(f, v)])) a (exo a C (some dx)))
/-- a reading that may be weakened -/
def Mono (te : TE) : Prop := ∀ σ H (P R : VK), (∀ v H', P v H' → R v H') → te σ H P → te σ H R
theorem mono_var {i : Nat} : Mono (tVar i) := fun σ H P R m ⟨v, h, q⟩ => ⟨v, h, m _ _ q⟩
section
variable {X : Cx} {x : Str} {C fI : Addr} {k : Nat} {fd : FuncData} {f : Str} {e : Expr} {te : TE} {p pos : Pos}
/-- what is known of a class with an __init__ of one field -/
structure Cls1 (P : Program) (w : World) (K : PySem.W.Frag) (mg : Str → Option Value) (base : Heap) (x f : Str) (C : Addr) (k : Nat) : Prop where
  oex : OexC K C
  exc : ExcC K C
  xf : XfC K C
  no : PySem.W.findIn K (.ref C) f = some none
  glob : mg x = some (.ref C)
  init : ∃ (fI : Addr) (fd : FuncData) (ps : List Str), PySem.W.findIn K (.ref C) "__init__" = some (some (.ref fI)) ∧ PySem.W.typeIn K (.ref fI) = some (.type "function") ∧ FnOk P w K mg base CX0 k fI fd ps (sp_init1 K C f) ∧ Binds K fd ps []
end
/-! ### in the suite of a clause -/
/-- isinstance(e, c), e the error at hand, with fields -/
def rIsD (K : PySem.W.Frag) (D : Addr) (cls : Value) (d : Option Addr) (a : Addr) : List V → Hp → VK → Prop := fun xs H Q => ∃ (c : V) (cv : Value) (b : Bool), xs = [.ref a, c] ∧ cls = .ref D ∧ (∃ (dd : Addr) (fs : List (Str × V)), d = some dd ∧ H dd = some (.xd fs)) ∧ (∀ u, RelV c u → u = cv) ∧ PySem.W.kitOne K (.ref D) cv = some b ∧ Q (.bl b) H
theorem call_isD {X : Cx} {a D : Addr} {cls : Value} {d : Option Addr} {oe : Obj} {pn : List (Addr × Obj)} (C : ExcC X.K D) (hz : Zc cls d oe) (hf : ∃ vs, oe.data = .fields vs) : CallR (X.suite a ((a, oe) :: pn)) (.builtin "isinstance") (rIsD X.K D cls d a) := by
  intro pins s σ H xs us Q I r h
  obtain ⟨c, cv, b, rfl, rfl, ⟨dd, fs, rfl, hd⟩, hcv, e, q⟩ := h
  cases r with
  | cons rx rr =>
    cases rr with
    | cons rt rr =>
      cases rr
      cases rx
      have ec := hcv _ rt
      subst ec
      obtain ⟨hget, _⟩ := I.pin (a, oe) (List.mem_append_left _ List.mem_cons_self)
      obtain ⟨vs, hv⟩ := hf
      have ok : ObjOk X.prog X.w H s.heap dd (.xd fs) := I.hok dd _ hd
      obtain ⟨mA, hns, _⟩ := ok
      obtain ⟨od, ho, _⟩ := lookIn_ns hns
      have J : PySem.W.InstAt s.heap a oe D (some od) := ⟨hget, hz.1, by unfold PySem.W.notCls; rw [hv] <;> rfl, by rw [hz.2]; exact ho⟩
      have hcl : (PySem.W.clsIn X.K D).isSome = true := by
        have := C.hd
        unfold PySem.W.hasDictIn at this
        cases h : PySem.W.clsIn X.K D with
        | none => rw [h] at this; cases this
        | some _ => rfl
      exact PySem.W.kia_one (PySem.W.kitx_exc hcl C.hg C.hk C.hs C.ha C.hn C.ht C.hm) I.kIn J e (fun z => nomatch z) fun tk => ⟨.bl b, H, I.kept (t' := tk) fun _ _ z => z, rfl, q⟩
/-! ### facts of classes, by their names -/
inductive Chk where
  | one (x f : Str)
  | kit (x y : Str) (b : Bool)
  | exm (x y : Str) (b : Bool)
  | keep (x : Str)
def Chk.ok (K : PySem.W.Frag) : Chk → Bool
  | .one x f => oexB K (He.ga K x) && (excB K (He.ga K x) && (decide (PySem.W.findIn K (.ref (He.ga K x)) f = some none) && (decide (PySem.W.findIn K (.ref (He.ga K x)) "__init__" = some (some (.ref (He.ma K (He.ga K x) "__init__")))) && decide (PySem.W.typeIn K (.ref (He.ma K (He.ga K x) "__init__")) = some (.type "function")))))
  | .kit x y b => decide (PySem.W.kitOne K (.ref (He.ga K x)) (.ref (He.ga K y)) = some b)
  | .exm x y b => decide (PySem.W.exmOne K (.ref (He.ga K x)) (.ref (He.ga K y)) = some b)
  | .keep x => PySem.W.keepIn K (.ref (He.ga K x))
end Tw
set_option Elab.async false
set_option linter.all false
set_option maxRecDepth 100000
set_option maxHeartbeats 4000000
/-! tuples that are laid as what they are (no dict), so that a method may be called on them: t.index(x) -/
namespace Tw
open PySem PySem.Spec PyProof.Rows L2
/-- the tuple at a, laid in this run, has no dict -/
def TD (H : Hp) (a : Addr) (xs : List V) : Prop := ∃ o : Obj, H a = some (.frz o (.tup xs)) ∧ o.cls = .type "tuple" ∧ o.dict = none
theorem TD.sq {K : PySem.W.Frag} {H : Hp} {a : Addr} {xs : List V} (h : TD H a xs) : SqT K H a xs := by
  obtain ⟨o, h, _⟩ := h
  exact .inl (.inr ⟨o, h⟩)
theorem TD.kp {H H' : Hp} {a : Addr} {xs : List V} (h : TD H a xs) (k : Kp H H') : TD H' a xs := by
  obtain ⟨o, h, c, d⟩ := h
  exact ⟨o, k _ _ h, c, d⟩
section
variable {X : Cx}
/-- what is asked of the heap behind a new tuple -/
abbrev NewT (Q : VK) (H : Hp) (xs : List V) : Prop := ∀ (p : Addr) (o : Obj), H p = none → o.cls = .type "tuple" → o.dict = none → Q (.ref p) (upd H p (.frz o (.tup xs)))
def tTupF (t : TA) : TE := fun σ H Q => t σ H fun xs H1 => xs.length ≤ sizeLine ∧ NewT Q H1 xs
/-- t + u -/
def rCatF (K : PySem.W.Frag) : R2 := fun x y H Q => ∃ a b xs ys, x = .ref a ∧ y = .ref b ∧ SqT K H a xs ∧ SqT K H b ys ∧ xs.length + ys.length ≤ sizeLine ∧ (xs = [] → Q (.ref b) H) ∧ (xs ≠ [] → ys = [] → Q (.ref a) H) ∧ (xs ≠ [] → ys ≠ [] → NewT Q H (xs ++ ys))
/-- t.index(x), t a tuple of texts -/
def tIdxT (to te : TE) : TE := fun σ H Q => to σ H fun x H1 => ∃ (a : Addr) (zs : List Str), x = .ref a ∧ TD H1 a (zs.map V.str) ∧ (tCons te tNil) σ H1 fun ys H2 => ∃ z, ys = [.str z] ∧ TD H2 a (zs.map V.str) ∧ z ∈ zs ∧ Q (.int (zs.idxOf z : Nat)) H2
end
end Tw
set_option Elab.async false
set_option linter.all false
set_option maxRecDepth 100000
set_option maxHeartbeats 4000000
/-! defs of the text that are run while nothing is being shown: repr of lists, tuples, dicts -/
namespace Tw
open PySem PySem.Spec PyProof.Rows L2
section
variable {P : Program} {w : World} {K : PySem.W.Frag} {mg : Str → Option Value} {base : Heap}
/-- no repr is under way -/
abbrev Quiet (A : Around) : Prop := A.guards = some []
/-- the call of f keeps the promise, here -/
def RunsAt (P : Program) (w : World) (K : PySem.W.Frag) (mg : Str → Option Value) (base : Heap) (CX : CXT) (A : Around) (f : Addr) (fd : FuncData) (ps : List Str) (sp : Sp) : Prop :=
  ∀ (outer : List Env) (s : Shared) (H : Hp) (args : Args) (us : List Value) (vs : List V) (Q : VK) (E : XK), Env0 P w K mg base A outer s H → BindsTo s fd args (ps.zip us) → Vals vs us → sp vs H Q E → codeAny (model P w) A (.call (.ref f) args) (CR CX outer P w H s Q E) s
structure FnG (P : Program) (w : World) (K : PySem.W.Frag) (mg : Str → Option Value) (base : Heap) (CX : CXT) (k : Nat) (f : Addr) (fd : FuncData) (ps : List Str) (sp : Sp) : Prop where
  len : ∀ vs H Q E, sp vs H Q E → vs.length = ps.length
  run : ∀ A : Around, Room k A → Quiet A → RunsAt P w K mg base CX A f fd ps sp
/-- THE RULE for a def that may show -/
theorem fnG_of {CX : CXT} {x qual : Str} {params : Arguments} {body : List Stmt} {scope : Scope} {dvs : List V} {kws : List (Str × V)} {f : Addr} {fd : FuncData} {N ps : List Str} {k : Nat} {sp : Sp} (F : FunD K x qual params body scope dvs kws f fd) (S : FnScope N ps scope)
    (len : ∀ vs H Q E, sp vs H Q E → vs.length = ps.length)
    (hbody : ∀ (cdv : Value) (A : Around) (outer : List Env) (s : Shared) (H : Hp) (vs : List V) (Q : VK) (E : XK), Room k (A.deeper (envOfC qual scope s.heap.objs.size f cdv)) → Quiet (A.deeper (envOfC qual scope s.heap.objs.size f cdv)) → sp vs H Q E →
      ∃ t, PSs (cxOf CX P w K mg base N qual scope f cdv A outer s H E) body t ∧ t { nx := fun _ H' => Q .non H', rt := Q } (start N vs) H) : FnG P w K mg base CX (k + 1) f fd ps sp := by
  obtain ⟨oc, od, dV, kV, doc, pm, an, cdv, ct, osl, rfl, lk, hcd, _, _⟩ := F.ex
  refine ⟨len, fun A hr hq outer s H args us vs Q E e0 hb r hsp => ?_⟩
  have old : ∀ b o, base.get? b = some o → s.heap.get? b = some o := fun b o e => (e0.bs b o e).1
  have KX := e0.mod.kin.keeps old
  refine codeAny_call_function hr.depth (KX _ _ lk) rfl S.co S.gen rfl (PySem.W.codeRec_of KX hcd) (hb _ _ _ _ ?_)
  refine wpAny_newFunctionEnv_cells S.kind (fun ⟨n, v⟩ hy => ?_) fun env he s1 x1 => ?_
  · rcases S.par n (List.of_mem_zip hy).1 with q | q
    · exact .inl q
    · exact .inr ⟨q, PySem.W.cellsFrom_some _ _ _ (.inl q)⟩
  · subst he
    refine ⟨(e0.mod.nolimit.keeps old).keeps x1.toInCall.keep, codeAny_func ?_⟩
    obtain ⟨t, ht, hw⟩ := hbody cdv A outer s H vs Q E (hr.deeper _) (by show A.guards = some []; exact hq) hsp
    have I := inv_start (E := E) (CX := CX) (f := f) (cd := cdv) (qual := qual) S hr.hd e0 (len _ _ _ _ hsp) r x1
    refine wpAny_mono (ht.run [] s1 (start N vs) H _ I hw) (fun fl s' hs => ?_) fun e s' hs => hs
    rcases fl with _ | _ | _ | u
    · obtain ⟨σ', H', J, q⟩ := hs
      exact ⟨.non, H', J.os, J.bare, J.base, J.hok, rfl, q⟩
    · obtain ⟨_, _, _, q⟩ := hs
      exact False.elim q
    · obtain ⟨_, _, _, q⟩ := hs
      exact False.elim q
    · obtain ⟨v, σ', H', J, rv, q⟩ := hs
      exact ⟨v, H', J.os, J.bare, J.base, J.hok, rv, q⟩
/-- a def that may show, as a callee -/
def CalG (P : Program) (w : World) (K : PySem.W.Frag) (mg : Str → Option Value) (base : Heap) (CX : CXT) (x : Str) (ps : List Str) (k : Nat) (sp : Sp) : Prop :=
  ∃ (f : Addr) (fd : FuncData), FnG P w K mg base CX k f fd ps sp ∧ mg x = some (.ref f) ∧ PySem.W.keepIn K (.ref f) = true ∧ Binds K fd ps []
theorem CalG.of {CX : CXT} {x : Str} {ps : List Str} {k : Nat} {sp : Sp} (c : Cal P w K mg base CX x ps k sp) : CalG P w K mg base CX x ps k sp := by
  obtain ⟨f, fd, F, g, kp, b⟩ := c
  exact ⟨f, fd, ⟨F.len, fun A hr _ outer s H args us vs Q E e0 hb r h => F.run A outer s H args us vs Q E hr e0 hb r h⟩, g, kp, b⟩
theorem CalG.mono {CX : CXT} {x : Str} {ps : List Str} {j k : Nat} {sp : Sp} (c : CalG P w K mg base CX x ps j sp) (h : j ≤ k) : CalG P w K mg base CX x ps k sp := by
  obtain ⟨f, fd, F, g, kp, b⟩ := c
  exact ⟨f, fd, ⟨F.len, fun A hr => F.run A (hr.mono h)⟩, g, kp, b⟩
end
section
variable {X : Cx} {CX : CXT} {k : Nat} {ps : List Str} {sp : Sp} {E : XK} {x : Str} {p pos : Pos} {e : Expr} {es : List Expr} {t : TA}
end
section
variable {P : Program} {w : World} {K : PySem.W.Frag} {mg mb : Str → Option Value} {k : Nat} {fa a : Addr} {fd : FuncData} {x : Str} {sp : Sp} {s : Shared} {vs : List Value} {ns : List Int}
/-- what a law's call comes to -/
abbrev LawEnd (s : Shared) (r : Result) (s' : Shared) : Prop := r = .ok (.ret (.bool true)) ∧ OldK s.heap s'.heap ∧ s'.os = s.os ∧ AllBare s'.gens
/-- the script's own list -/
abbrev scriptO (vs : List Value) : Obj := { cls := .type "list", data := .seq vs.toArray }
end
section
variable {X : Cx} {k : Nat}
/-- repr(x), x a list or a tuple of plain data -/
abbrev rRepr (K : PySem.W.Frag) : List V → Hp → VK → Prop := fun xs H Q => ∃ (a : Addr) (d : PyData), xs = [.ref a] ∧ Dp K H (.ref a) d ∧ d.showable = true ∧ d.hasDict = false ∧ d.depth ≤ 100 ∧ d.shown.length ≤ sizeLine ∧ Q (.str d.shown) H
end
end Tw
set_option Elab.async false
set_option linter.all false
set_option maxRecDepth 100000
set_option maxHeartbeats 4000000
/-! zip of a text and of a tuple, walked by a for -/
namespace Tw
open PySem PySem.Spec PyProof.Rows L2
end Tw
set_option Elab.async false
set_option linter.all false
set_option maxRecDepth 100000
set_option maxHeartbeats 4000000
/-! the program's table of words: a dict of the written part with texts -/
namespace Tw
open PySem PySem.Spec PyProof.Rows L2
/-- the table at F: its keys and texts -/
structure FormsAt (K : PySem.W.Frag) (w : World) (F : Addr) (l : List (Str × Str)) : Prop where
  dict : ∃ es n, KDict K w F es n
  at_ : ∀ q ∈ l, ∃ u, PySem.W.nsIn K F q.1 = some (some u) ∧ RelV (.str q.2) u
  no : ∀ z, z ∉ l.map (·.1) → PySem.W.nsIn K F z = some none
theorem FormsAt.dct {K : PySem.W.Frag} {w : World} {F : Addr} {l : List (Str × Str)} (h : FormsAt K w F l) {q : Str × Str} (hq : q ∈ l) : KDct K w F q.1 (.str q.2) := by
  obtain ⟨es, n, D⟩ := h.dict
  obtain ⟨u, e, r⟩ := h.at_ q hq
  exact ⟨es, n, u, D.at_, D.lit, e, r⟩
def tabs (l : List (Str × List (Str × Str))) : List He.Tab := l.map fun q => ((fun K => He.ga K q.1), q.2.map (·.1))
end Tw
set_option Elab.async false
set_option linter.all false
set_option maxRecDepth 100000
set_option maxHeartbeats 4000000
/-! x in TABLE, x not in TABLE -/
namespace Tw
open PySem PySem.Spec PyProof.Rows L2
section
variable {X : Cx} {F : Addr} {l : List (Str × Str)}
theorem FormsAt.has {K : PySem.W.Frag} {w : World} (h : FormsAt K w F l) (z : Str) : ∃ r, PySem.W.nsIn K F z = some r ∧ r.isSome = decide (z ∈ l.map (·.1)) := by
  by_cases hz : z ∈ l.map (·.1)
  · obtain ⟨q, hq, e⟩ := List.mem_map.mp hz
    obtain ⟨u, e1, _⟩ := h.at_ q hq
    refine ⟨some u, by rw [← e]; exact e1, by simp only [Option.isSome_some]; exact (decide_eq_true hz).symm⟩
  · exact ⟨none, h.no z hz, by simp only [Option.isSome_none]; exact (decide_eq_false hz).symm⟩
end
end Tw
set_option Elab.async false
set_option linter.all false
set_option maxRecDepth 100000
set_option maxHeartbeats 4000000
/-! old and new names of deeds, as the laws tell them -/
namespace Tw
open PySem PySem.Spec PyProof.Rows L2 TL
local macro_rules | `(tactic| walk_at "rd") => `(tactic| try simp only [o_op, o_un, o_var, o_c, o_cb, o_call, o_cons, o_nil, o_tup, o_lst, o_I0, o_I, o_int1, o_intb, o_abs, o_test, o_b, o_not, o_and, o_or, o_andV, o_orV, o_notV, o_ifE, o_isN, o_notN, o_eq, o_ne, o_seq, o_next, o_asg, o_name, o_sub, o_par, o_par3, o_drop, o_ret, o_retN, o_ifS, o_sl, o_noPart, o_part, o_bm, o_bm0, o_m0, o_m1, o_dget, o_dput, o_din, o_dnotin, o_listKeys, e_bl, e_int, e_str, e_some, e_two, e_three, o_for, o_lc, o_iList, o_iTup, o_iRng1, e_int1, e_ref, o_yes, o_wipe0, o_wipe1, o_disp, o_dnew, o_pairs0, o_pairs1, o_lock, o_keysM, o_gtup, o_gcons, o_gnil, o_rU, o_tru, o_revT, o_enumT, o_from, true_and, if_pos, List.getElem?_cons_zero, List.getElem?_cons_succ, List.set_cons_zero, List.set_cons_succ, List.append_nil])
def madeOf (w : Str) : Nat := if w = "wrap" then 2 else if w = "put" then 1 else 0
/-- the names of a deed taken up, from the k-th on -/
def roleNames (made : Nat) : Nat → List Str → List Str × List Str → List Str × List Str
  | _, [], r => r
  | k, n :: ns, r => roleNames made (k + 1) ns (if n ∈ r.1 ++ r.2 then r else if k = made then (r.1, r.2 ++ [n]) else (r.1 ++ [n], r.2))
def roles : List Deed → List Str × List Str → List Str × List Str
  | [], r => r
  | d :: ds, r => roles ds (roleNames (madeOf d.word) 1 d.names r)
/-- these values are the deeds -/
inductive Ds (K : PySem.W.Frag) (H : Hp) : List V → List Deed → Prop where
  | nil : Ds K H [] []
  | cons {p : Addr} {d : Deed} {vs : List V} {ds : List Deed} : DeedAt K H p d → Ds K H vs ds → Ds K H (.ref p :: vs) (d :: ds)
theorem Ds.mono {K : PySem.W.Frag} {H H' : Hp} (t : Tk K H H') {vs : List V} {ds : List Deed} (h : Ds K H vs ds) : Ds K H' vs ds := by
  induction h with
  | nil => exact .nil
  | cons a _ ih => exact .cons (t _ _ a) ih
theorem Ds.len {K : PySem.W.Frag} {H : Hp} {vs : List V} {ds : List Deed} (h : Ds K H vs ds) : vs.length = ds.length := by
  induction h with
  | nil => rfl
  | cons _ _ ih => simp [ih]
theorem Ds.at {K : PySem.W.Frag} {H : Hp} : ∀ {i : Nat} {vs : List V} {ds : List Deed} {v : V}, Ds K H vs ds → vs[i]? = some v → ∃ p d, v = .ref p ∧ ds[i]? = some d ∧ DeedAt K H p d
  | _, _, _, _, .nil, h => by simp at h
  | 0, _, _, _, .cons a _, h => ⟨_, _, (Option.some.inj (show some _ = some _ from h)).symm, rfl, a⟩
  | i + 1, _, _, _, .cons _ b, h => by
    obtain ⟨p, d, e, h1, h2⟩ := Ds.at (i := i) b (by simpa using h)
    exact ⟨p, d, e, by simpa using h1, h2⟩
section
variable {K : PySem.W.Frag}
end
end Tw
set_option Elab.async false
set_option linter.all false
set_option maxRecDepth 100000
set_option maxHeartbeats 4000000
/-! scripts as the laws draw them -/
namespace Tw
open PySem PySem.Spec PyProof.Rows L2 TL
local macro_rules | `(tactic| walk_at "rd") => `(tactic| try simp only [o_op, o_un, o_var, o_c, o_cb, o_call, o_cons, o_nil, o_tup, o_lst, o_I0, o_I, o_int1, o_intb, o_abs, o_test, o_b, o_not, o_and, o_or, o_andV, o_orV, o_notV, o_ifE, o_isN, o_notN, o_eq, o_ne, o_seq, o_next, o_asg, o_name, o_sub, o_par, o_par3, o_drop, o_ret, o_retN, o_ifS, o_sl, o_noPart, o_part, o_bm, o_bm0, o_m0, o_m1, o_dget, o_dput, o_din, o_dnotin, o_listKeys, e_bl, e_int, e_str, e_some, e_two, e_three, o_for, o_lc, o_iList, o_iTup, o_iRng1, e_int1, e_ref, o_yes, o_wipe0, o_wipe1, o_disp, o_dnew, o_pairs0, o_pairs1, o_lock, o_keysM, o_gtup, o_gcons, o_gnil, o_rU, o_tru, o_revT, o_enumT, o_from, true_and, if_pos, List.getElem?_cons_zero, List.getElem?_cons_succ, List.set_cons_zero, List.set_cons_succ, List.append_nil])
/-- a script by the names zs -/
structure Script (zs : List Str) (ds : List Deed) : Prop where
  ok : ∀ d ∈ ds, d.Ok zs
  old : (roles ds ([], [])).1.length ≤ 4
  new : (roles ds ([], [])).2.length ≤ 3
theorem Deed.Ok.len {d : Deed} {zs : List Str} (h : d.Ok zs) : 1 ≤ d.names.length ∧ d.names.length ≤ 2 := by
  have := h.many
  split at this <;> omega
section
variable {K : PySem.W.Frag}
theorem Ds.snoc {H : Hp} {vs : List V} {ds : List Deed} {p : Addr} {d : Deed} (h : Ds K H vs ds) (hp : DeedAt K H p d) : Ds K H (vs ++ [.ref p]) (ds ++ [d]) := by
  induction h with
  | nil => exact .cons hp .nil
  | cons a _ ih => exact .cons a ih
end
end Tw
set_option Elab.async false
set_option linter.all false
set_option maxRecDepth 100000
set_option maxHeartbeats 4000000
/-! what is sorted is so in one way -/
namespace Tw
open PySem PySem.Spec PyProof.Rows L2 TL
end Tw
set_option Elab.async false
set_option linter.all false
set_option maxRecDepth 100000
set_option maxHeartbeats 4000000
/-! k17, the law's own side: old_names and new_names are asked for, the program's text is not known yet -/
namespace Tw
open PySem PySem.Spec PyProof.Rows L2 TL
local macro_rules | `(tactic| walk_at "rd") => `(tactic| try simp only [o_op, o_un, o_var, o_c, o_cb, o_call, o_cons, o_nil, o_tup, o_lst, o_I0, o_I, o_int1, o_intb, o_abs, o_test, o_b, o_not, o_and, o_or, o_andV, o_orV, o_notV, o_ifE, o_isN, o_notN, o_eq, o_ne, o_seq, o_next, o_asg, o_name, o_sub, o_par, o_par3, o_drop, o_ret, o_retN, o_ifS, o_sl, o_noPart, o_part, o_bm, o_bm0, o_m0, o_m1, o_dget, o_dput, o_din, o_dnotin, o_listKeys, e_bl, e_int, e_str, e_some, e_two, e_three, o_for, o_lc, o_iList, o_iTup, o_iRng1, e_int1, e_ref, o_yes, o_wipe0, o_wipe1, o_disp, o_dnew, o_pairs0, o_pairs1, o_lock, o_keysM, o_gtup, o_gcons, o_gnil, o_rU, o_tru, o_revT, o_enumT, o_from, true_and, if_pos, List.getElem?_cons_zero, List.getElem?_cons_succ, List.set_cons_zero, List.set_cons_succ, List.append_nil])
/-- a script as it may be passed -/
structure ScriptOk (zs : List Str) (ds : List Deed) : Prop where
  sc : Script zs ds
  len : ds.length ≤ 12
  nms : ∀ z ∈ zs, IsName z
section
variable {K : PySem.W.Frag}
theorem roleNames_in (made : Nat) : ∀ (ns : List Str) (k : Nat) (r : List Str × List Str) (z : Str), z ∈ (roleNames made k ns r).1 ++ (roleNames made k ns r).2 → z ∈ r.1 ++ r.2 ∨ z ∈ ns
  | [], _, _, _, h => .inl h
  | n :: ns, k, r, z, h => by
    unfold roleNames at h
    rcases roleNames_in made ns (k + 1) _ z h with h | h
    · split at h
      · exact .inl h
      · split at h
        · rw [← List.append_assoc] at h
          rcases List.mem_append.mp h with h | h
          · exact .inl h
          · exact .inr (by rw [List.mem_singleton.mp h]; exact List.mem_cons_self ..)
        · rcases List.mem_append.mp h with h | h
          · rcases List.mem_append.mp h with h | h
            · exact .inl (List.mem_append_left _ h)
            · exact .inr (by rw [List.mem_singleton.mp h]; exact List.mem_cons_self ..)
          · exact .inl (List.mem_append_right _ h)
    · exact .inr (List.mem_cons_of_mem _ h)
theorem roles_in : ∀ (ds : List Deed) (r : List Str × List Str) (z : Str), z ∈ (roles ds r).1 ++ (roles ds r).2 → z ∈ r.1 ++ r.2 ∨ ∃ d ∈ ds, z ∈ d.names
  | [], _, _, h => .inl h
  | d :: ds, r, z, h => by
    unfold roles at h
    rcases roles_in ds _ z h with h | ⟨e, he, hz⟩
    · rcases roleNames_in _ _ _ _ z h with h | h
      · exact .inl h
      · exact .inr ⟨d, List.mem_cons_self .., h⟩
    · exact .inr ⟨e, List.mem_cons_of_mem _ he, hz⟩
theorem ScriptOk.names {zs : List Str} {ds : List Deed} (h : ScriptOk zs ds) : (∀ z ∈ (roles ds ([], [])).1, PyData.strOk z = true) ∧ ∀ z ∈ (roles ds ([], [])).2, PyData.strOk z = true := by
  have key : ∀ z ∈ (roles ds ([], [])).1 ++ (roles ds ([], [])).2, PyData.strOk z = true := fun z hz => by
    rcases roles_in ds _ z hz with h2 | ⟨d, hd, hz⟩
    · cases h2
    · exact strOk_of (h.nms z ((h.sc.ok d hd).nms z hz))
  exact ⟨fun z hz => key z (List.mem_append_left _ hz), fun z hz => key z (List.mem_append_right _ hz)⟩
theorem Ds.drop {H : Hp} : ∀ {n : Nat} {vs : List V} {ds : List Deed}, Ds K H vs ds → Ds K H (vs.drop n) (ds.drop n)
  | 0, _, _, h => h
  | _ + 1, _, _, .nil => .nil
  | n + 1, _, _, .cons _ b => Ds.drop (n := n) b
theorem Ds.take {H : Hp} : ∀ {n : Nat} {vs : List V} {ds : List Deed}, Ds K H vs ds → Ds K H (vs.take n) (ds.take n)
  | 0, _, _, _ => .nil
  | _ + 1, _, _, .nil => .nil
  | n + 1, _, _, .cons a b => .cons a (Ds.take (n := n) b)
theorem Ds.app {H : Hp} {v1 v2 : List V} {d1 d2 : List Deed} (h1 : Ds K H v1 d1) (h2 : Ds K H v2 d2) : Ds K H (v1 ++ v2) (d1 ++ d2) := by
  induction h1 with
  | nil => exact h2
  | cons a _ ih => exact .cons a ih
end
end Tw
set_option Elab.async false
set_option linter.all false
set_option maxRecDepth 100000
set_option maxHeartbeats 4000000
/-! the program's _first_kinds, old_names, new_names -/
namespace Tw
open PySem PySem.Spec PyProof.Rows L2 TL
local macro_rules | `(tactic| walk_at "rd") => `(tactic| try simp only [o_op, o_un, o_var, o_c, o_cb, o_call, o_cons, o_nil, o_tup, o_lst, o_I0, o_I, o_int1, o_intb, o_abs, o_test, o_b, o_not, o_and, o_or, o_andV, o_orV, o_notV, o_ifE, o_isN, o_notN, o_eq, o_ne, o_seq, o_next, o_asg, o_name, o_sub, o_par, o_par3, o_drop, o_ret, o_retN, o_ifS, o_sl, o_noPart, o_part, o_bm, o_bm0, o_m0, o_m1, o_dget, o_dput, o_din, o_dnotin, o_listKeys, e_bl, e_int, e_str, e_some, e_two, e_three, o_for, o_lc, o_iList, o_iTup, o_iRng1, e_int1, e_ref, o_yes, o_wipe0, o_wipe1, o_disp, o_dnew, o_pairs0, o_pairs1, o_lock, o_keysM, o_gtup, o_gcons, o_gnil, o_rU, o_tru, o_revT, o_enumT, o_from, true_and, if_pos, List.getElem?_cons_zero, List.getElem?_cons_succ, List.set_cons_zero, List.set_cons_succ, List.append_nil])
/-- the kinds of names as they stand for the first time -/
structure Knd (ks : List (Str × Str)) (r : List Str × List Str) : Prop where
  o : (ks.filter fun p => decide (p.2 = ("o" : Str))).map (·.1) = r.1
  n : (ks.filter fun p => decide (p.2 = ("n" : Str))).map (·.1) = r.2
  all : ∀ p ∈ ks, p.2 = ("o" : Str) ∨ p.2 = ("n" : Str)
  nd : (ks.map (·.1)).Nodup
def kd (ks : List (Str × Str)) : List (Str × V) := ks.map fun p => (p.1, .str p.2)
theorem Knd.mem {ks : List (Str × Str)} {r : List Str × List Str} (h : Knd ks r) (z : Str) : z ∈ ks.map (·.1) ↔ z ∈ r.1 ++ r.2 := by
  rw [← h.o, ← h.n]
  constructor
  · intro hz
    obtain ⟨p, hp, rfl⟩ := List.mem_map.mp hz
    rcases h.all p hp with e | e
    · exact List.mem_append_left _ (List.mem_map.mpr ⟨p, List.mem_filter.mpr ⟨hp, by simpa using e⟩, rfl⟩)
    · exact List.mem_append_right _ (List.mem_map.mpr ⟨p, List.mem_filter.mpr ⟨hp, by simpa using e⟩, rfl⟩)
  · intro hz
    rcases List.mem_append.mp hz with hz | hz
    · obtain ⟨p, hp, rfl⟩ := List.mem_map.mp hz
      exact List.mem_map.mpr ⟨p, (List.mem_filter.mp hp).1, rfl⟩
    · obtain ⟨p, hp, rfl⟩ := List.mem_map.mp hz
      exact List.mem_map.mpr ⟨p, (List.mem_filter.mp hp).1, rfl⟩
theorem Knd.nil : Knd [] ([], []) := ⟨rfl, rfl, (fun _ h => by cases h), List.nodup_nil⟩
theorem Knd.len {ks : List (Str × Str)} {r : List Str × List Str} (h : Knd ks r) : ks.length = r.1.length + r.2.length := by
  have : ∀ l : List (Str × Str), (∀ p ∈ l, p.2 = ("o" : Str) ∨ p.2 = ("n" : Str)) → l.length = (l.filter fun p => decide (p.2 = ("o" : Str))).length + (l.filter fun p => decide (p.2 = ("n" : Str))).length := by
    intro l
    induction l with
    | nil => intro _; rfl
    | cons p l ih =>
      intro ha
      have i := ih fun q hq => ha q (List.mem_cons_of_mem _ hq)
      rcases ha p (List.mem_cons_self ..) with e | e
      · have e2 : ¬ p.2 = ("n" : Str) := by rw [e]; decide +kernel
        rw [List.filter_cons_of_pos (by simpa using e), List.filter_cons_of_neg (by simpa using e2), List.length_cons, List.length_cons, i]; omega
      · have e2 : ¬ p.2 = ("o" : Str) := by rw [e]; decide +kernel
        rw [List.filter_cons_of_neg (by simpa using e2), List.filter_cons_of_pos (by simpa using e), List.length_cons, List.length_cons, i]; omega
  rw [this ks h.all, ← h.o, ← h.n, List.length_map, List.length_map]
/-- one more name -/
theorem Knd.step {ks : List (Str × Str)} {r : List Str × List Str} (h : Knd ks r) {z : Str} (hz : z ∉ r.1 ++ r.2) (b : Bool) : Knd (ks ++ [(z, if b then ("n" : Str) else ("o" : Str))]) (if b then (r.1, r.2 ++ [z]) else (r.1 ++ [z], r.2)) := by
  have hz2 : z ∉ ks.map (·.1) := fun q => hz ((h.mem z).mp q)
  have no : ¬ ("n" : Str) = "o" := by decide +kernel
  have on : ¬ ("o" : Str) = "n" := by decide +kernel
  have nd : ((ks ++ [(z, if b then ("n" : Str) else ("o" : Str))]).map (·.1)).Nodup := by
    rw [List.map_append, List.nodup_append]
    refine ⟨h.nd, by simp, fun a ha c hc => ?_⟩
    have hc2 : c = z := by simpa using hc
    rw [hc2]
    exact fun e => hz2 (by rw [← e]; exact ha)
  have al : ∀ p ∈ ks ++ [(z, if b then ("n" : Str) else ("o" : Str))], p.2 = ("o" : Str) ∨ p.2 = ("n" : Str) := fun p hp => by
    rcases List.mem_append.mp hp with hp | hp
    · exact h.all p hp
    · rw [List.mem_singleton.mp hp]; cases b <;> simp
  cases b
  · refine ⟨?_, ?_, al, nd⟩
    · rw [List.filter_append, List.map_append, h.o]; simp
    · rw [List.filter_append, List.map_append, h.n]; simp [on]
  · refine ⟨?_, ?_, al, nd⟩
    · rw [List.filter_append, List.map_append, h.o]; simp [no]
    · rw [List.filter_append, List.map_append, h.n]; simp
section
variable {K : PySem.W.Frag} {w : World} {F_FORMS : Addr}
end
end Tw
set_option Elab.async false
set_option linter.all false
set_option maxRecDepth 100000
set_option maxHeartbeats 4000000
/-! values of any kind, dicts too: what isinstance, in and == with an empty one say of them -/
namespace Tw
open PySem PySem.Spec PyProof.Rows L2 TL
open AutoSeq1 (wpAny_loadPart')
open SeqAt (EqAt RcAt)
theorem sub_str_dict : isSubtype (.type "str") (.type "dict") = pure false := by rw [isSubtype_type]; kernel_rfl
theorem dict_eq_declines_str (l : Addr) (es : Array DictEntry) (n : Nat) (dd : Option Addr) (sl : Array (Option Value)) (b : Str) (u : Tok) :
    Meets (Builtin.«dict.__eq__» ⟨[.ref l, .str b u], []⟩) (fun _ R s => s.heap.get? l = some { cls := .type "dict", dict := dd, data := .dict es n, slots := sl } ∧ R (.ok (.ret .notImplemented)) s) :=
  .of_wp fun prog w A R s h => by obtain ⟨hp, g, d, tk, os⟩ := s; obtain ⟨hl, h⟩ := h; have f1 := sub_str_dict; wp_walk using wpAny_loadPart' hl, wpAny_load hl; exact ⟨_, rfl, h⟩
theorem str_eq_declines_dict (b : Str) (u : Tok) (l : Addr) (es : Array DictEntry) (n : Nat) (dd : Option Addr) (sl : Array (Option Value)) :
    Meets (Builtin.«str.__eq__» ⟨[.str b u, .ref l], []⟩) (fun _ R s => s.heap.get? l = some { cls := .type "dict", dict := dd, data := .dict es n, slots := sl } ∧ R (.ok (.ret .notImplemented)) s) :=
  .of_wp fun prog w A R s h => by obtain ⟨hp, g, d, tk, os⟩ := s; obtain ⟨hl, h⟩ := h; wp_walk using wpAny_loadPart' hl, wpAny_load hl; exact ⟨_, rfl, h⟩
section
variable {A : Around} {s : Shared}
theorem rc_str_dict {l : Addr} {o : Obj} {es : Array DictEntry} {n : Nat} (b : Str) (u : Tok) (ho : s.heap.get? l = some o) (he : o.ExactDict) (hd : o.data = .dict es n) (hu : A.units < cLine) : RcAt A s (.str b u) (.ref l) false := fun prog w E Q h => by
  obtain ⟨cls, dd, data, sl⟩ := o
  obtain ⟨hc, h2, h3⟩ := he
  simp only at hc h2 h3 hd
  subst hc h2 h3 hd
  exact SeqAt.rc_eq_decline_or (k := false) (typeIs_str s b u) ⟨_, ho, rfl⟩ (by decide) (by rw [isSubtype_type]; kernel_rfl) F.slot_str_eq F.slot_dict_eq_refl
    (fun _ hq => call_meets F.slot_str_eq (typeIs_str s b u) F.entry_str_eq (F.args_str_eq_2 _ _) (str_eq_declines_dict b u l es n none #[]) ⟨ho, hq⟩)
    (fun _ hq => call_meets F.slot_dict_eq_refl ⟨_, ho, rfl⟩ F.entry_dict_eq (F.args_dict_eq_2 _ _) (dict_eq_declines_str l es n none #[] b u) ⟨ho, hq⟩)
    (fun _ hq => wpAny_of_eq (rfl : isSame (.str b u) (.ref l) = pure false) hq) (.inr hu) h
theorem eq_str_dict {l : Addr} {o : Obj} {es : Array DictEntry} {n : Nat} (b : Str) (u : Tok) (ho : s.heap.get? l = some o) (he : o.ExactDict) (hd : o.data = .dict es n) (hu : A.units < cLine) : EqAt A s (.str b u) (.ref l) false := fun prog w E Q h => by
  unfold eqBool
  refine wpAny_holding ?_
  refine wpAny_ite_split (fun hab => absurd (eq_of_beq hab) nofun) (fun _ => ?_)
  exact wpAny_bind (rc_str_dict b u ho he hd hu prog w E _ (wpAny_truthy_bool h))
end
/-- no string, no tuple -/
inductive Oth (K : PySem.W.Frag) (H : Hp) : V → Prop where
  | non : Oth K H .non
  | bl (b : Bool) : Oth K H (.bl b)
  | int (i : Int) : Oth K H (.int i)
  | lst {a : Addr} {xs : List V} (h : H a = some (.lst xs)) : Oth K H (.ref a)
  | dic {a : Addr} {kvs : List (Key × V)} (h : H a = some (.dK kvs)) : Oth K H (.ref a)
/-- no string -/
inductive Nt (K : PySem.W.Frag) (H : Hp) : V → Prop where
  | oth {v : V} (h : Oth K H v) : Nt K H v
  | tup {a : Addr} {xs : List V} (h : SqT K H a xs) : Nt K H (.ref a)
theorem Oth.dk {K : PySem.W.Frag} {H H' : Hp} {d : Addr} (k : Dk d H H') {v : V} (h : Oth K H v) (hd : DeckAt H d) : Oth K H' v := by
  cases h with
  | non => exact .non
  | bl b => exact .bl b
  | int i => exact .int i
  | @lst a xs h =>
    by_cases e : a = d
    · obtain ⟨x, y, z, hk⟩ := k.deck
      rw [e]; exact .lst hk
    · exact .lst (k.keep _ _ h e)
  | @dic a kvs h =>
    by_cases e : a = d
    · obtain ⟨x, y, z, hk⟩ := hd
      rw [e, hk] at h; cases h
    · exact .dic (k.keep _ _ h e)
theorem Oth.kp {K : PySem.W.Frag} {H H' : Hp} (k : Kp H H') {v : V} (h : Oth K H v) : Oth K H' v := by
  cases h with
  | non => exact .non
  | bl b => exact .bl b
  | int i => exact .int i
  | lst h => exact .lst (k _ _ h)
  | dic h => exact .dic (k _ _ h)
theorem Nt.kp {K : PySem.W.Frag} {H H' : Hp} (k : Kp H H') {v : V} (h : Nt K H v) : Nt K H' v := by
  cases h with
  | oth h => exact .oth (h.kp k)
  | tup h => exact .tup (Tk.kp k _ _ h)
theorem Nt.dk {K : PySem.W.Frag} {H H' : Hp} {d : Addr} (k : Dk d H H') {v : V} (h : Nt K H v) (hd : DeckAt H d) : Nt K H' v := by
  cases h with
  | oth h => exact .oth (h.dk k hd)
  | tup h => exact .tup (k.tk hd _ _ h)
theorem ty_tup {K : PySem.W.Frag} {H : Hp} {a : Addr} {xs : List V} (h : SqT K H a xs) : TyX K H (.ref a) (.type "tuple") := by
  rcases h with (h | ⟨o, h⟩) | ⟨o, its, n, h, c, _⟩
  · exact .base (.tup h)
  · exact .fTuple h
  · exact .kTuple h c
theorem Oth.ty {K : PySem.W.Frag} {H : Hp} {v : V} (h : Oth K H v) : ∃ t, TyX K H v (.type t) ∧ kitB t "str" = some false ∧ kitB t "tuple" = some false := by
  cases h with
  | non => exact ⟨"NoneType", .base .non, by decide +kernel, by decide +kernel⟩
  | bl b => exact ⟨"bool", .base (.bl b), by decide +kernel, by decide +kernel⟩
  | int i => exact ⟨"int", .base (.int i), by decide +kernel, by decide +kernel⟩
  | lst h => exact ⟨"list", .base (.lst h), by decide +kernel, by decide +kernel⟩
  | dic h => exact ⟨"dict", .base (.dK h), by decide +kernel, by decide +kernel⟩
theorem Nt.noStr {K : PySem.W.Frag} {H : Hp} {v : V} (h : Nt K H v) : NoStr K H v := by
  cases h with
  | oth h => obtain ⟨t, a, b, _⟩ := h.ty; exact ⟨t, a, b⟩
  | tup h => exact ⟨"tuple", ty_tup h, by decide +kernel⟩
theorem o_isiTO {K : PySem.W.Frag} {H : Hp} {Q : VK} {v : V} (h : Oth K H v) (q : Q (.bl false) H) : rIsiB K "tuple" [v, .ty "tuple"] H Q := by
  obtain ⟨t, a, _, b⟩ := h.ty
  exact ⟨_, t, false, rfl, a, b, q⟩
theorem o_isiTS {K : PySem.W.Frag} {H : Hp} {Q : VK} {z : Str} (q : Q (.bl false) H) : rIsiB K "tuple" [.str z, .ty "tuple"] H Q := ⟨_, "str", false, rfl, .base (.str z), by decide +kernel, q⟩
section
variable {X : Cx} {pins : List (Addr × Obj)} {σ : L2.St} {H : Hp} {s : Shared} {k : Nat}
/-- a text is no other value -/
theorem eq_str_nt {A : Around} (I : Inv X pins σ H s) {x : V} {v : Value} (hx : Nt X.K H x) (rx : RelV x v) (b : Str) (u : Tok) (hu : A.units < cLine) : EqAt A s (.str b u) v false := by
  cases hx with
  | oth h => cases h with
    | non => cases rx; exact EqAt.str_none b u
    | bl c => cases rx; exact EqAt.str_bool b u c
    | int i => obtain ⟨t, rfl⟩ := rx; exact EqAt.str_int b u i t
    | @lst a xs h =>
      cases rx
      obtain ⟨its, rv, pl, _⟩ := I.list (SqL.of h)
      exact EqAt.str_list b u pl.isList hu
    | @dic a kvs h =>
      cases rx
      obtain ⟨_, _, vs, _, o, es, ep, eo, ex, ed, _⟩ := dk_of I.hok h
      exact eq_str_dict b u eo ex ed hu
  | @tup a xs h =>
    cases rx
    obtain ⟨its, rv, pl, _⟩ := I.tuple h
    exact EqAt.str_tuple b u pl hu
theorem nt_all {A : Around} (I : Inv X pins σ H s) {x : V} {v : Value} (hx : Nt X.K H x) (rx : RelV x v) (hu : A.units < cLine) : ∀ {zs : List Str} {us : List Value}, Vals (zs.map V.str) us → ∀ u ∈ us, EqAt A s u v false
  | [], _, .nil => fun _ h => by cases h
  | z :: zs, _, .cons r t => fun u hm => by
    rcases List.mem_cons.mp hm with e | hm
    · obtain ⟨t0, e2⟩ := r
      rw [e, e2]
      exact eq_str_nt I hx rx z t0 hu
    · exact nt_all I hx rx hu t u hm
/-- x == y, y empty -/
abbrev rEqE (K : PySem.W.Frag) (neg : Bool) : R2 := fun x y H Q => ∃ (a b : Addr) (xs : List V), x = .ref a ∧ y = .ref b ∧ ((SqL K H a xs ∧ SqL K H b []) ∨ (neg = false ∧ SqT K H a xs ∧ SqT K H b [])) ∧ Q (.bl (neg != xs.isEmpty)) H
theorem op_eqE (hr : Room k X.A) : OpR X (compareOp .Eq) (rEqE X.K false) := by
  intro pins s σ H x y v u Q I rx ry h
  obtain ⟨a, b, xs, rfl, rfl, h, q⟩ := h
  cases rx
  cases ry
  have hu : X.A.units < cLine := by have := hr.un; omega
  rcases h with ⟨h1, h2⟩ | ⟨_, h1, h2⟩
  · obtain ⟨its, rv, p1, _⟩ := I.list h1
    obtain ⟨its2, rv2, p2, _⟩ := I.list h2
    cases rv2
    cases rv with
    | nil => exact SeqAt.eq_listAt (e := fun _ => true) p1.isList p2.isList rfl hu (fun j h1 _ => absurd h1 (by simp)) ⟨.bl _, H, I, rfl, by simpa using q⟩
    | cons r t => exact SeqAt.eq_list_lengthsAt p1.isList p2.isList (by simp) hu ⟨.bl _, H, I, rfl, by simpa using q⟩
  · obtain ⟨its, rv, p1, _⟩ := I.tuple h1
    obtain ⟨its2, rv2, p2, _⟩ := I.tuple h2
    cases rv2
    refine SeqAt.eq_tupleAt (e := fun _ => true) p1 p2 hu (fun j _ h1 => absurd h1 (by simp)) ⟨.bl _, H, I, rfl, ?_⟩
    cases rv with
    | nil => simpa using q
    | cons r t => simpa using q
theorem op_neE (hr : Room k X.A) : OpR X (compareOp .NotEq) (rEqE X.K true) := by
  intro pins s σ H x y v u Q I rx ry h
  obtain ⟨a, b, xs, rfl, rfl, h, q⟩ := h
  have hu : X.A.units < cLine := by have := hr.un; omega
  rcases h with ⟨h1, h2⟩ | ⟨e, _⟩
  · by_cases hx : xs = []
    · subst hx
      refine op_neB hr pins s σ H _ _ v u Q I rx ry ⟨_, _, .lst h1 .nil, .lst h2 .nil, rfl, rfl, by simp [PyData.depth, PyData.depthAll], by
        have e : PyData.eqv (.list []) (.list []) = true := by simp [PyData.eqv, PyData.eqvAll]
        rw [e]; simpa using q⟩
    · cases rx
      cases ry
      obtain ⟨its, rv, p1, _⟩ := I.list h1
      obtain ⟨its2, rv2, p2, _⟩ := I.list h2
      cases rv2
      obtain ⟨⟨cls, dd, data, sl⟩, ho, hc, n, hd⟩ := id p1.isList
      obtain ⟨⟨cls2, dd2, data2, sl2⟩, ho2, hc2, n2, hd2⟩ := id p2.isList
      simp only at hc hd hc2 hd2
      subst hc hd hc2 hd2
      have hsz : (its.toArray.size != (#[] : Array Value).size) = true := by
        cases rv with
        | nil => exact absurd rfl hx
        | cons r t => simp
      refine richCompare_meets_room (op := .NotEq) ⟨_, ho, rfl⟩ ⟨_, ho2, rfl⟩ F.slot_list_ne F.entry_list_ne (F.args_list_ne_2 _ _) (SeqAt.list_ne_lengthsAt a b its.toArray #[] n n2 dd dd2 sl sl2 hsz)
        ⟨ho, ho2, (fun x => nomatch x), ⟨.bl _, H, I, rfl, ?_⟩⟩ hu
      have : xs.isEmpty = false := by cases xs with
        | nil => exact absurd rfl hx
        | cons _ _ => rfl
      rw [this] at q; exact q
  · cases e
end
end Tw
set_option Elab.async false
set_option linter.all false
set_option maxRecDepth 100000
set_option maxHeartbeats 4000000
/-! The plain layer: values without a heap, a state without a heap, and what binds both to the readings. -/
namespace Tw
open PySem PySem.Spec PyProof.Rows L2
/-- a plain value -/
inductive PV where
  | non | bl (b : Bool) | int (i : Int) | str (x : Str) | tup (xs : List PV) | lst (xs : List PV) | dic (kvs : List (Key × PV)) | deck | frt (xs : List PV)
mutual
/-- the value v stands for x; lists and dicts lie in F and are not changed -/
inductive Rep (K : PySem.W.Frag) (dk : Option Addr) (F : Addr → Prop) (H : Hp) : V → PV → Prop where
  | non : Rep K dk F H .non .non
  | bl (b : Bool) : Rep K dk F H (.bl b) (.bl b)
  | int (i : Int) : Rep K dk F H (.int i) (.int i)
  | str (x : Str) : Rep K dk F H (.str x) (.str x)
  | tup {a : Addr} {vs : List V} {xs : List PV} : SqT K H a vs → RepL K dk F H vs xs → Rep K dk F H (.ref a) (.tup xs)
  | lst {a : Addr} {vs : List V} {xs : List PV} : F a → H a = some (.lst vs) → RepL K dk F H vs xs → Rep K dk F H (.ref a) (.lst xs)
  | dic {a : Addr} {vs : List (Key × V)} {xs : List (Key × PV)} : F a → H a = some (.dK vs) → RepK K dk F H vs xs → Rep K dk F H (.ref a) (.dic xs)
  | deck {a : Addr} : dk = some a → Rep K dk F H (.ref a) .deck
  | frt {a : Addr} {vs : List V} {xs : List PV} : SqT K H a vs → (xs ≠ [] → F a ∧ TD H a vs) → RepL K dk F H vs xs → Rep K dk F H (.ref a) (.frt xs)
inductive RepL (K : PySem.W.Frag) (dk : Option Addr) (F : Addr → Prop) (H : Hp) : List V → List PV → Prop where
  | nil : RepL K dk F H [] []
  | cons {v : V} {x : PV} {vs : List V} {xs : List PV} : Rep K dk F H v x → RepL K dk F H vs xs → RepL K dk F H (v :: vs) (x :: xs)
inductive RepK (K : PySem.W.Frag) (dk : Option Addr) (F : Addr → Prop) (H : Hp) : List (Key × V) → List (Key × PV) → Prop where
  | nil : RepK K dk F H [] []
  | cons {k : Key} {v : V} {x : PV} {vs : List (Key × V)} {xs : List (Key × PV)} : Rep K dk F H v x → RepK K dk F H vs xs → RepK K dk F H ((k, v) :: vs) ((k, x) :: xs)
end
/-- F grows, its things and the tuples stay -/
structure Grow (K : PySem.W.Frag) (F : Addr → Prop) (H : Hp) (F' : Addr → Prop) (H' : Hp) : Prop where
  sub : ∀ b, F b → F' b
  tup : Tk K H H'
  keep : ∀ b o, F b → H b = some o → H' b = some o
section
variable {K : PySem.W.Frag} {dk : Option Addr} {F F' F2 : Addr → Prop} {H H' H2 : Hp}
theorem Grow.refl : Grow K F H F H := ⟨fun _ h => h, Tk.refl, fun _ _ _ h => h⟩
theorem Grow.trans (a : Grow K F H F' H') (b : Grow K F' H' F2 H2) : Grow K F H F2 H2 := ⟨fun c h => b.sub c (a.sub c h), a.tup.trans b.tup, fun c o h e => b.keep c o (a.sub c h) (a.keep c o h e)⟩
mutual
theorem Rep.mono (g : Grow K F H F' H') : ∀ {v : V} {x : PV}, Rep K dk F H v x → Rep K dk F' H' v x
  | _, _, .non => .non
  | _, _, .bl b => .bl b
  | _, _, .int i => .int i
  | _, _, .str x => .str x
  | _, _, .tup s r => .tup (g.tup _ _ s) (RepL.mono g r)
  | _, _, .lst f e r => .lst (g.sub _ f) (g.keep _ _ f e) (RepL.mono g r)
  | _, _, .dic f e r => .dic (g.sub _ f) (g.keep _ _ f e) (RepK.mono g r)
  | _, _, .deck e => .deck e
  | _, _, .frt s t r => .frt (g.tup _ _ s) (fun z => ⟨g.sub _ (t z).1, (by obtain ⟨f, o, h1, h2⟩ := t z; exact ⟨o, g.keep _ _ f h1, h2⟩)⟩) (RepL.mono g r)
theorem RepL.mono (g : Grow K F H F' H') : ∀ {vs : List V} {xs : List PV}, RepL K dk F H vs xs → RepL K dk F' H' vs xs
  | _, _, .nil => .nil
  | _, _, .cons r t => .cons (Rep.mono g r) (RepL.mono g t)
theorem RepK.mono (g : Grow K F H F' H') : ∀ {vs : List (Key × V)} {xs : List (Key × PV)}, RepK K dk F H vs xs → RepK K dk F' H' vs xs
  | _, _, .nil => .nil
  | _, _, .cons r t => .cons (Rep.mono g r) (RepK.mono g t)
end
theorem RepL.len {vs : List V} {xs : List PV} (r : RepL K dk F H vs xs) : vs.length = xs.length := by
  induction vs generalizing xs with
  | nil => cases r; rfl
  | cons v vs ih => cases r with | cons _ t => simp [ih t]
theorem RepL.app {vs ws : List V} {xs ys : List PV} (r : RepL K dk F H vs xs) (t : RepL K dk F H ws ys) : RepL K dk F H (vs ++ ws) (xs ++ ys) := by
  induction vs generalizing xs with
  | nil => cases r; exact t
  | cons v vs ih => cases r with | cons a b => exact .cons a (ih b)
theorem RepL.one {v : V} {x : PV} (r : Rep K dk F H v x) : RepL K dk F H [v] [x] := .cons r .nil
theorem RepL.get {vs : List V} {xs : List PV} {i : Nat} {v : V} (r : RepL K dk F H vs xs) (e : vs[i]? = some v) : ∃ x, xs[i]? = some x ∧ Rep K dk F H v x := by
  induction vs generalizing xs i with
  | nil => simp at e
  | cons w vs ih =>
    cases r with
    | cons a b =>
      cases i with
      | zero => simp at e; subst e; exact ⟨_, rfl, a⟩
      | succ i => simpa using ih b (by simpa using e)
theorem RepL.get2 {vs : List V} {xs : List PV} {i : Nat} {x : PV} (r : RepL K dk F H vs xs) (e : xs[i]? = some x) : ∃ v, vs[i]? = some v ∧ Rep K dk F H v x := by
  induction vs generalizing xs i with
  | nil => cases r; simp at e
  | cons w vs ih =>
    cases r with
    | cons a b =>
      cases i with
      | zero => simp at e; subst e; exact ⟨_, rfl, a⟩
      | succ i => simpa using ih b (by simpa using e)
theorem RepL.take {vs : List V} {xs : List PV} (r : RepL K dk F H vs xs) (n : Nat) : RepL K dk F H (vs.take n) (xs.take n) := by
  induction vs generalizing xs n with
  | nil => cases r; simp; exact .nil
  | cons w vs ih =>
    cases r with
    | cons a b =>
      cases n with
      | zero => exact .nil
      | succ n => exact .cons a (ih b n)
theorem RepL.drop {vs : List V} {xs : List PV} (r : RepL K dk F H vs xs) (n : Nat) : RepL K dk F H (vs.drop n) (xs.drop n) := by
  induction vs generalizing xs n with
  | nil => cases r; simp; exact .nil
  | cons w vs ih =>
    cases r with
    | cons a b =>
      cases n with
      | zero => exact .cons a b
      | succ n => exact ih b n
theorem RepL.rev {vs : List V} {xs : List PV} (r : RepL K dk F H vs xs) : RepL K dk F H vs.reverse xs.reverse := by
  induction vs generalizing xs with
  | nil => cases r; exact .nil
  | cons w vs ih =>
    cases r with
    | cons a b => rw [List.reverse_cons, List.reverse_cons]; exact (ih b).app (.one a)
theorem RepL.set {vs : List V} {xs : List PV} {v : V} {x : PV} (r : RepL K dk F H vs xs) (h : Rep K dk F H v x) (i : Nat) : RepL K dk F H (vs.set i v) (xs.set i x) := by
  induction vs generalizing xs i with
  | nil => cases r; exact .nil
  | cons w vs ih =>
    cases r with
    | cons a b =>
      cases i with
      | zero => exact .cons h b
      | succ i => exact .cons a (ih b i)
theorem RepL.erase {vs : List V} {xs : List PV} (r : RepL K dk F H vs xs) (i : Nat) : RepL K dk F H (vs.eraseIdx i) (xs.eraseIdx i) := by
  induction vs generalizing xs i with
  | nil => cases r; exact .nil
  | cons w vs ih =>
    cases r with
    | cons a b =>
      cases i with
      | zero => exact b
      | succ i => exact .cons a (ih b i)
theorem RepL.dropLast {vs : List V} {xs : List PV} (r : RepL K dk F H vs xs) : RepL K dk F H vs.dropLast xs.dropLast := by
  rw [List.dropLast_eq_take, List.dropLast_eq_take, r.len]; exact r.take _
end
/-- a slot of the plain state: nothing known, a value, a list or a dict of one's own -/
inductive Sl where
  | no | val (x : PV) | own (xs : List PV) | ownD (kvs : List (Key × PV)) | err (a : Addr) (d : Option Addr) (er : Addr × List (Str × PV))
abbrev Env := List Sl
inductive RepF (K : PySem.W.Frag) (dk : Option Addr) (F : Addr → Prop) (H : Hp) : List (Str × V) → List (Str × PV) → Prop where
  | nil : RepF K dk F H [] []
  | cons {k : Str} {v : V} {x : PV} {vs : List (Str × V)} {xs : List (Str × PV)} : Rep K dk F H v x → RepF K dk F H vs xs → RepF K dk F H ((k, v) :: vs) ((k, x) :: xs)
theorem RepF.mono {K : PySem.W.Frag} {dk : Option Addr} {F F' : Addr → Prop} {H H' : Hp} (g : Grow K F H F' H') {vs : List (Str × V)} {xs : List (Str × PV)} (r : RepF K dk F H vs xs) : RepF K dk F' H' vs xs := by
  induction r with
  | nil => exact .nil
  | cons a _ ih => exact .cons (a.mono g) ih
theorem RepF.get {K : PySem.W.Frag} {dk : Option Addr} {F : Addr → Prop} {H : Hp} {vs : List (Str × V)} {xs : List (Str × PV)} (r : RepF K dk F H vs xs) {k : Str} {x : PV} (e : xs.lookup k = some x) : ∃ v, vs.lookup k = some v ∧ Rep K dk F H v x := by
  induction r with
  | nil => cases e
  | @cons k' v x' vs xs a _ ih =>
    rw [List.lookup_cons] at e
    cases h : k == k' with
    | true => rw [h] at e; cases e; exact ⟨v, by rw [List.lookup_cons, h], a⟩
    | false =>
      rw [h] at e
      obtain ⟨v', e', r'⟩ := ih e
      exact ⟨v', by rw [List.lookup_cons, h]; exact e', r'⟩
/-- the error at hand: its dict is kept -/
def ErrAt (K : PySem.W.Frag) (dk : Option Addr) (F : Addr → Prop) (H : Hp) (d : Option Addr) (fs : List (Str × PV)) : Prop := (d = none ∧ fs = []) ∨ ∃ a fv, d = some a ∧ F a ∧ H a = some (.xd fv) ∧ RepF K dk F H fv fs
theorem ErrAt.mono {K : PySem.W.Frag} {dk : Option Addr} {F F' : Addr → Prop} {H H' : Hp} (g : Grow K F H F' H') {d : Option Addr} {fs : List (Str × PV)} (h : ErrAt K dk F H d fs) : ErrAt K dk F' H' d fs := by
  rcases h with h | ⟨a, fv, e, f, q, r⟩
  · exact .inl h
  · exact .inr ⟨a, fv, e, g.sub _ f, g.keep _ _ f q, r.mono g⟩
/-- what a slot holds -/
inductive SlAt (K : PySem.W.Frag) (dk : Option Addr) (F : Addr → Prop) (H : Hp) : Option V → Sl → Prop where
  | no (o : Option V) : SlAt K dk F H o .no
  | val {v : V} {x : PV} : Rep K dk F H v x → SlAt K dk F H (some v) (.val x)
  | own {a : Addr} {vs : List V} {xs : List PV} : H a = some (.lst vs) → RepL K dk F H vs xs → SlAt K dk F H (some (.ref a)) (.own xs)
  | ownD {a : Addr} {vs : List (Key × V)} {xs : List (Key × PV)} : H a = some (.dK vs) → RepK K dk F H vs xs → SlAt K dk F H (some (.ref a)) (.ownD xs)
  | err {a : Addr} {d : Option Addr} {er : Addr × List (Str × PV)} : ErrAt K dk F H d er.2 → SlAt K dk F H (some (.ref a)) (.err a d er)
def Sl.owns : Sl → Prop
  | .own _ => True
  | .ownD _ => True
  | _ => False
/-- the address a is that of an own list or dict in slot i -/
def OwnAt (σ : L2.St) (ρ : Env) (i : Nat) (a : Addr) : Prop := ∃ s, ρ[i]? = some s ∧ s.owns ∧ σ[i]? = some (some (.ref a))
/-- a heap without its tables of code objects -/
def hide (H : Hp) : Hp := fun b => match H b with
  | some (.tbl _) => none
  | o => o
theorem hide_some {H : Hp} {b : Addr} {o : HO} (h : hide H b = some o) : H b = some o ∧ ∀ ps, o ≠ .tbl ps := by
  unfold hide at h
  split at h
  · cases h
  · rename_i hn
    exact ⟨h, fun ps e => hn ps (by rw [h, e])⟩
theorem hide_of {H : Hp} {b : Addr} {o : HO} (h : H b = some o) (n : ∀ ps, o ≠ .tbl ps) : hide H b = some o := by
  unfold hide
  rw [h]
  split
  · rename_i ps e
    exact absurd (Option.some.inj e) (n ps)
  · rfl
theorem hide_none {H : Hp} {b : Addr} (h : H b = none) : hide H b = none := by
  unfold hide; rw [h]
theorem hide_not {H : Hp} {b : Addr} (h : hide H b = none) : H b = none ∨ ∃ ps, H b = some (.tbl ps) := by
  unfold hide at h
  split at h
  · rename_i ps e; exact .inr ⟨ps, e⟩
  · exact .inl h
/-- the tables of code objects that are known (none, if nothing else is said) -/
class Tbs (K : PySem.W.Frag) where
  T : List (Addr × Str)
instance (priority := 10) tbs0 (K : PySem.W.Frag) : Tbs K := ⟨[]⟩
/-- the tables stand, F holds none -/
structure TbOk (K : PySem.W.Frag) [Tbs K] (F : Addr → Prop) (H : Hp) : Prop where
  tabs : LamX.Tabs (Tbs.T K) H
  fnt : ∀ b ps, F b → H b ≠ some (.tbl ps)
theorem tabs_but {T : List (Addr × Str)} {H H' : Hp} {a : Addr} (t : LamX.Tabs T H) (h : ∀ b o, H b = some o → b ≠ a → H' b = some o) (h1 : ∀ ps, H a ≠ some (.tbl ps)) (h2 : ∀ c q, H a ≠ some (LamX.CodeO c q)) : LamX.Tabs T H' := fun p hp => by
  obtain ⟨ps, e1, e2, e3⟩ := t p hp
  refine ⟨ps, h _ _ e1 fun z => h1 ps (z ▸ e1), e2, fun pos cv hc => ?_⟩
  obtain ⟨c, f1, f2⟩ := e3 pos cv hc
  exact ⟨c, f1, h _ _ f2 fun z => h2 c p.2 (z ▸ f2)⟩
/-- the heap since the entry (F0, H0) -/
structure St0 (K : PySem.W.Frag) [Tbs K] (dk : Option Addr) (F0 : Addr → Prop) (H0 : Hp) (F : Addr → Prop) (H : Hp) : Prop where
  base : ∀ b o, H0 b = some o → dk ≠ some b → H b = some o
  fnew : ∀ b, F b → F0 b ∨ H0 b = none
  fall : ∀ b, F b → ∃ o, H b = some o
  f0 : ∀ b, F0 b → F b
  fdk : ∀ b, F b → dk ≠ some b
  deck : ∀ d, dk = some d → DeckAt H d
  deck0 : ∀ d, dk = some d → DeckAt H0 d
  h0 : ∀ b ps, H0 b ≠ some (.tbl ps)
  tb : TbOk K F H
structure PInv (K : PySem.W.Frag) [Tbs K] (dk : Option Addr) (F0 : Addr → Prop) (H0 : Hp) (F : Addr → Prop) (σ : L2.St) (H : Hp) (ρ : Env) : Prop where
  st : St0 K dk F0 H0 F H
  len : σ.length = ρ.length
  sl : ∀ (i : Nat) (s : Sl) (o : Option V), ρ[i]? = some s → σ[i]? = some o → SlAt K dk F H o s
  dis : ∀ (i j : Nat) (a : Addr), OwnAt σ ρ i a → OwnAt σ ρ j a → i = j
  fresh : ∀ (i : Nat) (a : Addr), OwnAt σ ρ i a → H0 a = none ∧ ¬ F a
/-- an error: its class, its fields -/
abbrev PErr := Addr × List (Str × PV)
/-- the dict of an error -/
def ErrD (H0 : Hp) (F : Addr → Prop) (H : Hp) (d : Option Addr) (fv : List (Str × V)) : Prop := (d = none ∧ fv = []) ∨ ∃ a, d = some a ∧ H a = some (.xd fv) ∧ H0 a = none ∧ ¬ F a
section
variable {K : PySem.W.Frag} [Tbs K] {dk : Option Addr} {F0 F F' F2 : Addr → Prop} {H0 H H' H2 : Hp} {σ σ' : L2.St} {ρ ρ' : Env}
theorem OwnAt.same {i : Nat} {x y : Addr} (a : OwnAt σ ρ i x) (b : OwnAt σ ρ i y) : x = y := by
  obtain ⟨_, _, _, e⟩ := a
  obtain ⟨_, _, _, f⟩ := b
  rw [e] at f; cases f; rfl
theorem SlAt.mono (g : Grow K F H F' H') {o : Option V} {s : Sl} (h : SlAt K dk F H o s) (ho : ∀ a, s.owns → o = some (.ref a) → H' a = H a) : SlAt K dk F' H' o s := by
  cases h with
  | no => exact .no _
  | val r => exact .val (r.mono g)
  | own e r => exact .own (by rw [ho _ trivial rfl]; exact e) (r.mono g)
  | ownD e r => exact .ownD (by rw [ho _ trivial rfl]; exact e) (r.mono g)
  | err e => exact .err (e.mono g)
theorem deck_hide {d : Addr} (h : DeckAt H d) : DeckAt (hide H) d := by
  obtain ⟨x, y, z, q⟩ := h
  exact ⟨x, y, z, hide_of q fun ps e => by cases e⟩
theorem TbOk.new (t : TbOk K F H) (fa : ∀ b, F b → ∃ o, H b = some o) {p : Addr} {o : HO} (h : H p = none) : TbOk K F (upd H p o) :=
  ⟨t.tabs.ext fun b u e => by rw [upd_ne (ne_of_none e h)]; exact e, fun b ps hb e => by
    obtain ⟨u, hu⟩ := fa b hb
    rw [upd_ne (ne_of_none hu h)] at e; exact t.fnt b ps hb e⟩
theorem TbOk.sub {D : Addr} {o : HO} (t : TbOk K F H) (h : H D = some o) (n : ∀ ps, o ≠ .tbl ps) : TbOk K (fun b => F b ∨ b = D) H :=
  ⟨t.tabs, fun b ps hb e => hb.elim (fun hb => t.fnt b ps hb e) fun hb => by
    subst hb
    rw [h] at e; exact n ps (Option.some.inj e)⟩
theorem TbOk.chg (t : TbOk K F H) {a : Addr} {u : HO} (na : ¬ F a) (h1 : ∀ ps, H a ≠ some (.tbl ps)) (h2 : ∀ c q, H a ≠ some (LamX.CodeO c q)) : TbOk K F (upd H a u) :=
  ⟨tabs_but t.tabs (fun b o e n => by rw [upd_ne n]; exact e) h1 h2, fun b ps hb e => by
    rw [upd_ne (fun (z : b = a) => na (z ▸ hb))] at e; exact t.fnt b ps hb e⟩
theorem St0.refl (hf : ∀ b, F b → ∃ o, H b = some o) (hd : ∀ b, F b → dk ≠ some b) (hk : ∀ d, dk = some d → DeckAt H d) (t : TbOk K F H) : St0 K dk F (hide H) F H := ⟨fun _ _ h _ => (hide_some h).1, fun _ h => .inl h, hf, fun _ h => h, hd, hk, fun d e => deck_hide (hk d e), fun b ps e => (hide_some e).2 ps rfl, t⟩
theorem St0.grow (s : St0 K dk F0 H0 F H) : Grow K F0 H0 F H := by
  refine ⟨s.f0, fun a xs h => ?_, fun b o h e => s.base b o e (s.fdk b (s.f0 b h))⟩
  rcases h with h | h
  · rcases h with h | ⟨o, h⟩
    · refine .inl (.inl (s.base _ _ h fun e => ?_))
      obtain ⟨x, y, z, q⟩ := s.deck0 _ e
      rw [h] at q; cases q
    · refine .inl (.inr ⟨o, s.base _ _ h fun e => ?_⟩)
      obtain ⟨x, y, z, q⟩ := s.deck0 _ e
      rw [h] at q; cases q
  · exact .inr h
theorem St0.self (s : St0 K dk F0 H0 F H) : St0 K dk F (hide H) F H := .refl s.fall s.fdk s.deck s.tb
/-- a new thing is laid -/
theorem St0.new (s : St0 K dk F0 H0 F H) {p : Addr} {o : HO} (h : H p = none) : St0 K dk F0 H0 F (upd H p o) := by
  refine ⟨fun b u e n => ?_, s.fnew, fun b h => ?_, s.f0, s.fdk, fun d e => ?_, s.deck0, s.h0, s.tb.new s.fall h⟩
  · have := s.base b u e n
    rw [upd_ne (ne_of_none this ‹H p = none›)]; exact this
  · obtain ⟨u, e⟩ := s.fall b h
    exact ⟨u, by rw [upd_ne (ne_of_none e ‹H p = none›)]; exact e⟩
  · obtain ⟨x, y, z, q⟩ := s.deck d e
    exact ⟨x, y, z, by rw [upd_ne (ne_of_none q h)]; exact q⟩
theorem St0.newF (s : St0 K dk F0 H0 F H) {p : Addr} {o : HO} (h : H p = none) (hnt : ∀ ps, o ≠ .tbl ps := by intro _ e; cases e) : St0 K dk F0 H0 (fun b => F b ∨ b = p) (upd H p o) := by
  have n := s.new (o := o) h
  have hp0 : H0 p = none := by
    cases e : H0 p with
    | none => rfl
    | some u =>
      by_cases hd : dk = some p
      · obtain ⟨x, y, z, q⟩ := s.deck p hd
        rw [h] at q; cases q
      · have := s.base p u e hd
        rw [h] at this; cases this
  refine ⟨n.base, fun b hb => ?_, fun b hb => ?_, fun b hb => .inl (s.f0 b hb), fun b hb => ?_, n.deck, n.deck0, s.h0, n.tb.sub upd_same hnt⟩
  · rcases hb with hb | rfl
    · exact s.fnew b hb
    · exact .inr hp0
  · rcases hb with hb | rfl
    · exact n.fall b hb
    · exact ⟨o, upd_same⟩
  · rcases hb with hb | rfl
    · exact s.fdk b hb
    · intro e
      obtain ⟨x, y, z, q⟩ := s.deck _ e
      rw [h] at q; cases q
theorem St0.freshOf (s : St0 K dk F0 H0 F H) {p : Addr} (h : H p = none) : H0 p = none ∧ ¬ F p := by
  refine ⟨?_, fun hf => ?_⟩
  · cases e : H0 p with
    | none => rfl
    | some u =>
      by_cases hd : dk = some p
      · obtain ⟨x, y, z, q⟩ := s.deck p hd
        rw [h] at q; cases q
      · have := s.base p u e hd
        rw [h] at this; cases this
  · obtain ⟨u, e⟩ := s.fall p hf
    rw [h] at e; cases e
theorem St0.freshH (s : St0 K dk F0 H0 F H) {p : Addr} (h : hide H p = none) : H0 p = none ∧ ¬ F p := by
  rcases hide_not h with h | ⟨ps, h⟩
  · exact s.freshOf h
  · refine ⟨?_, fun hf => s.tb.fnt p ps hf h⟩
    cases e : H0 p with
    | none => rfl
    | some u =>
      by_cases hd : dk = some p
      · obtain ⟨x, y, z, q⟩ := s.deck p hd
        rw [h] at q; cases q
      · have := s.base p u e hd
        rw [h] at this; cases this
        exact absurd e (s.h0 p ps)
theorem Grow.new {p : Addr} {o : HO} (h : H p = none) : Grow K F H F (upd H p o) := by
  refine ⟨fun _ h => h, fun a xs q => ?_, fun b u _ e => by rw [upd_ne (ne_of_none e h)]; exact e⟩
  rcases q with q | q
  · rcases q with q | ⟨u, q⟩
    · exact .inl (.inl (by rw [upd_ne (ne_of_none q h)]; exact q))
    · exact .inl (.inr ⟨u, by rw [upd_ne (ne_of_none q h)]; exact q⟩)
  · exact .inr q
theorem Grow.newF {p : Addr} {o : HO} (h : H p = none) : Grow K F H (fun b => F b ∨ b = p) (upd H p o) := by
  have := Grow.new (K := K) (F := F) (o := o) h
  exact ⟨fun _ h => .inl h, this.tup, this.keep⟩
theorem PInv.ownNe (I : PInv K dk F0 H0 F σ H ρ) {i : Nat} {a : Addr} (o : OwnAt σ ρ i a) : ∃ u, H a = some u := by
  obtain ⟨s, hs, hw, e⟩ := o
  have := I.sl i s _ hs e
  cases this with
  | no => cases hw
  | val => cases hw
  | own e _ => exact ⟨_, e⟩
  | ownD e _ => exact ⟨_, e⟩
  | err e => cases hw
theorem PInv.ownNt (I : PInv K dk F0 H0 F σ H ρ) {i : Nat} {a : Addr} (o : OwnAt σ ρ i a) : ∃ u, H a = some u ∧ ∀ ps, u ≠ .tbl ps := by
  obtain ⟨s, hs, hw, e⟩ := o
  have := I.sl i s _ hs e
  cases this with
  | no => cases hw
  | val => cases hw
  | own e _ => exact ⟨_, e, fun ps z => by cases z⟩
  | ownD e _ => exact ⟨_, e, fun ps z => by cases z⟩
  | err e => cases hw
theorem Grow.unhide (g : Grow K F (hide H) F' H') (t : ∀ b ps, F b → H b ≠ some (.tbl ps)) : Grow K F H F' H' :=
  ⟨g.sub, fun a xs h => g.tup a xs (by
    rcases h with h | h
    · rcases h with h | ⟨o, h⟩
      · exact .inl (.inl (hide_of h fun ps e => by cases e))
      · exact .inl (.inr ⟨o, hide_of h fun ps e => by cases e⟩)
    · exact .inr h), fun b o hb e => g.keep b o hb (hide_of e fun ps z => t b ps hb (by rw [e, z]))⟩
/-- a new thing that is no slot's own -/
theorem PInv.newF (I : PInv K dk F0 H0 F σ H ρ) {p : Addr} {o : HO} (h : H p = none) (hnt : ∀ ps, o ≠ .tbl ps := by intro _ e; cases e) : PInv K dk F0 H0 (fun b => F b ∨ b = p) σ (upd H p o) ρ := by
  refine ⟨I.st.newF h hnt, I.len, fun i s u hs hu => (I.sl i s u hs hu).mono (Grow.newF h) fun a w e => ?_, I.dis, fun i a ho => ?_⟩
  · obtain ⟨x, q⟩ := I.ownNe ⟨s, hs, w, by rw [hu, e]⟩
    exact upd_ne (ne_of_none q h)
  · obtain ⟨x, q⟩ := I.ownNe ho
    obtain ⟨h1, h2⟩ := I.fresh i a ho
    exact ⟨h1, fun z => z.elim h2 fun z => ne_of_none q h z⟩
theorem PInv.new (I : PInv K dk F0 H0 F σ H ρ) {p : Addr} {o : HO} (h : H p = none) : PInv K dk F0 H0 F σ (upd H p o) ρ := by
  refine ⟨I.st.new h, I.len, fun i s u hs hu => (I.sl i s u hs hu).mono (Grow.new h) fun a w e => ?_, I.dis, I.fresh⟩
  obtain ⟨x, q⟩ := I.ownNe ⟨s, hs, w, by rw [hu, e]⟩
  exact upd_ne (ne_of_none q h)
/-- an own slot's list is changed -/
theorem PInv.chg (I : PInv K dk F0 H0 F σ H ρ) {i : Nat} {a : Addr} (o : OwnAt σ ρ i a) {u : HO} (hk : ∀ xs, H a ≠ some (.tup xs)) (hz : ∀ z xs, H a ≠ some (.frz z xs)) : Grow K F H F (upd H a u) ∧ St0 K dk F0 H0 F (upd H a u) := by
  obtain ⟨f1, f2⟩ := I.fresh i a o
  have nd : dk ≠ some a := fun e => by
    obtain ⟨x, y, z, q⟩ := I.st.deck0 a e
    rw [f1] at q; cases q
  have own : (∃ vs, H a = some (.lst vs)) ∨ ∃ vs, H a = some (.dK vs) := by
    obtain ⟨s, hs, hw, e⟩ := o
    have := I.sl i s _ hs e
    cases this with
    | no => cases hw
    | val => cases hw
    | own e _ => exact .inl ⟨_, e⟩
    | ownD e _ => exact .inr ⟨_, e⟩
    | err e => cases hw
  have nt1 : ∀ ps, H a ≠ some (.tbl ps) := fun ps q => by rcases own with ⟨vs, e⟩ | ⟨vs, e⟩ <;> rw [e] at q <;> cases q
  have nt2 : ∀ c q, H a ≠ some (LamX.CodeO c q) := fun c q' q => by
    unfold LamX.CodeO at q
    rcases own with ⟨vs, e⟩ | ⟨vs, e⟩ <;> rw [e] at q <;> cases q
  have ne1 : ∀ b, F b → b ≠ a := fun b h z => f2 (z ▸ h)
  have ne2 : ∀ b xs, H b = some (.tup xs) → b ≠ a := fun b xs q z => hk xs (z ▸ q)
  have ne3 : ∀ b z xs, H b = some (.frz z xs) → b ≠ a := fun b y xs q z => hz y xs (z ▸ q)
  have ne4 : ∀ b, dk = some b → b ≠ a := fun b h z => nd (z ▸ h)
  refine ⟨⟨fun _ h => h, fun b xs q => ?_, fun b v h e => by rw [upd_ne (ne1 _ h)]; exact e⟩, ⟨fun b v e n => ?_, I.st.fnew, fun b h => ?_, I.st.f0, I.st.fdk, fun d e => ?_, I.st.deck0, I.st.h0, I.st.tb.chg f2 nt1 nt2⟩⟩
  · rcases q with q | q
    · rcases q with q | ⟨u, q⟩
      · exact .inl (.inl (by rw [upd_ne (ne2 _ _ q)]; exact q))
      · exact .inl (.inr ⟨u, by rw [upd_ne (ne3 _ _ _ q)]; exact q⟩)
    · exact .inr q
  · rw [upd_ne fun z => by rw [z, f1] at e; cases e]; exact I.st.base b v e n
  · obtain ⟨v, e⟩ := I.st.fall b h
    exact ⟨v, by rw [upd_ne (ne1 _ h)]; exact e⟩
  · obtain ⟨x, y, z, q⟩ := I.st.deck d e
    exact ⟨x, y, z, by rw [upd_ne (ne4 _ e)]; exact q⟩
theorem getE_set {α : Type} {l : List α} {i j : Nat} {v : α} : (l.set i v)[j]? = if i = j then (if j < l.length then some v else none) else l[j]? := by
  rw [List.getElem?_set]
  by_cases h : i = j
  · subst h; rfl
  · rw [if_neg h, if_neg h]
/-- a slot is set to a value -/
theorem PInv.setV (I : PInv K dk F0 H0 F σ H ρ) {i : Nat} {v : V} {x : PV} (r : Rep K dk F H v x) : PInv K dk F0 H0 F (σ.set i (some v)) H (ρ.set i (.val x)) := by
  have hl : ∀ j a, OwnAt (σ.set i (some v)) (ρ.set i (.val x)) j a → OwnAt σ ρ j a := by
    rintro j a ⟨s, hs, hw, e⟩
    rw [getE_set] at hs e
    by_cases hij : i = j
    · rw [if_pos hij] at hs
      split at hs
      · cases hs; cases hw
      · cases hs
    · rw [if_neg hij] at hs e
      exact ⟨s, hs, hw, e⟩
  refine ⟨I.st, by simp [I.len], fun j s o hs ho => ?_, fun j k a h1 h2 => I.dis j k a (hl j a h1) (hl k a h2), fun j a h => I.fresh j a (hl j a h)⟩
  rw [getE_set] at hs ho
  by_cases hij : i = j
  · rw [if_pos hij] at hs ho
    split at hs
    · cases hs
      split at ho
      · cases ho; exact .val r
      · cases ho
    · cases hs
  · rw [if_neg hij] at hs ho
    exact I.sl j s o hs ho
/-- a slot is forgotten -/
theorem PInv.setN (I : PInv K dk F0 H0 F σ H ρ) {i : Nat} {o : Option V} : PInv K dk F0 H0 F (σ.set i o) H (ρ.set i .no) := by
  have hl : ∀ j a, OwnAt (σ.set i o) (ρ.set i .no) j a → OwnAt σ ρ j a := by
    rintro j a ⟨s, hs, hw, e⟩
    rw [getE_set] at hs e
    by_cases hij : i = j
    · rw [if_pos hij] at hs
      split at hs
      · cases hs; cases hw
      · cases hs
    · rw [if_neg hij] at hs e
      exact ⟨s, hs, hw, e⟩
  refine ⟨I.st, by simp [I.len], fun j s o hs ho => ?_, fun j k a h1 h2 => I.dis j k a (hl j a h1) (hl k a h2), fun j a h => I.fresh j a (hl j a h)⟩
  rw [getE_set] at hs ho
  by_cases hij : i = j
  · rw [if_pos hij] at hs ho
    split at hs
    · cases hs; exact .no _
    · cases hs
  · rw [if_neg hij] at hs ho
    exact I.sl j s _ hs ho
/-- a slot gets a thing of its own -/
theorem PInv.setO (I : PInv K dk F0 H0 F σ H ρ) {i : Nat} {a : Addr} {s : Sl} (hs : SlAt K dk F H (some (.ref a)) s) (f : H0 a = none ∧ ¬ F a) (hn : ∀ j, OwnAt σ ρ j a → j = i) : PInv K dk F0 H0 F (σ.set i (some (.ref a))) H (ρ.set i s) := by
  have hl : ∀ j b, OwnAt (σ.set i (some (.ref a))) (ρ.set i s) j b → (j = i ∧ b = a) ∨ (j ≠ i ∧ OwnAt σ ρ j b) := by
    rintro j b ⟨t, ht, hw, e⟩
    rw [getE_set] at ht e
    by_cases hij : i = j
    · rw [if_pos hij] at ht e
      split at e
      · cases e; exact .inl ⟨hij.symm, rfl⟩
      · cases e
    · rw [if_neg hij] at ht e
      exact .inr ⟨fun z => hij z.symm, t, ht, hw, e⟩
  refine ⟨I.st, by simp [I.len], fun j t o ht ho => ?_, fun j k b h1 h2 => ?_, fun j b h => ?_⟩
  · rw [getE_set] at ht ho
    by_cases hij : i = j
    · rw [if_pos hij] at ht ho
      split at ht
      · cases ht
        split at ho
        · cases ho; exact hs
        · cases ho
      · cases ht
    · rw [if_neg hij] at ht ho
      exact I.sl j t _ ht ho
  · rcases hl j b h1 with ⟨e1, e2⟩ | ⟨n1, o1⟩
    · rcases hl k b h2 with ⟨e3, e4⟩ | ⟨n2, o2⟩
      · rw [e1, e3]
      · exact absurd (hn k (e2 ▸ o2)) n2
    · rcases hl k b h2 with ⟨e3, e4⟩ | ⟨n2, o2⟩
      · exact absurd (hn j (e4 ▸ o1)) n1
      · exact I.dis j k b o1 o2
  · rcases hl j b h with ⟨_, rfl⟩ | ⟨_, o1⟩
    · exact f
    · exact I.fresh j b o1
/-- an own slot i is changed: its list at a becomes u, that stands for s -/
theorem PInv.chgO (I : PInv K dk F0 H0 F σ H ρ) {i : Nat} {a : Addr} (o : OwnAt σ ρ i a) {u : HO} {s : Sl} (hk : ∀ xs, H a ≠ some (.tup xs)) (hz : ∀ z xs, H a ≠ some (.frz z xs)) (hs : SlAt K dk F (upd H a u) (some (.ref a)) s) :
    PInv K dk F0 H0 F σ (upd H a u) (ρ.set i s) := by
  obtain ⟨g, st⟩ := I.chg o (u := u) hk hz
  have hi : i < ρ.length := by
    obtain ⟨t, ht, _, _⟩ := o
    exact (List.getElem?_eq_some_iff.mp ht).1
  have hl : ∀ j b, OwnAt σ (ρ.set i s) j b → OwnAt σ ρ j b := by
    rintro j b ⟨t, ht, hw, e⟩
    by_cases hij : i = j
    · subst hij
      obtain ⟨s1, h1, h2, h3⟩ := o
      rw [h3] at e; cases e
      exact ⟨s1, h1, h2, h3⟩
    · rw [getE_set, if_neg hij] at ht
      exact ⟨t, ht, hw, e⟩
  refine ⟨st, by simp [I.len], fun j t q ht hq => ?_, fun j k b h1 h2 => I.dis j k b (hl j b h1) (hl k b h2), fun j b h => I.fresh j b (hl j b h)⟩
  rw [getE_set] at ht
  by_cases hij : i = j
  · rw [if_pos hij, if_pos (hij ▸ hi)] at ht
    cases ht
    obtain ⟨_, _, _, h3⟩ := o
    rw [← hij, h3] at hq; cases hq
    exact hs
  · rw [if_neg hij] at ht
    refine (I.sl j t q ht hq).mono g fun b w e => ?_
    refine upd_ne fun z => hij (I.dis i j a o ⟨t, ht, w, by rw [hq, e, z]⟩)
end
end Tw
set_option Elab.async false
set_option linter.all false
set_option maxRecDepth 100000
set_option maxHeartbeats 4000000
/-! The plain layer: readings bound to plain ones. -/
namespace Tw
open PySem PySem.Spec PyProof.Rows L2
abbrev EK := L2.St → XK
abbrev PEK := Env → PErr → Prop
/-- what is done with an error, from (F1, H1) on -/
def ErrS (K : PySem.W.Frag) [Tbs K] (dk : Option Addr) (F0 : Addr → Prop) (H0 : Hp) (F1 : Addr → Prop) (H1 : Hp) (E : EK) (PE : PEK) : Prop :=
  ∀ F σ H ρ C d fv fs, Grow K F1 H1 F H → PInv K dk F0 H0 F σ H ρ → RepF K dk F H fv fs → ErrD H0 F H d fv → PE ρ (C, fs) → E σ (.ref C) d H
structure PEnds where
  nx : Env → Prop
  rt : PV → Prop
  bk : Env → Prop := fun _ => False
  ct : Env → Prop := fun _ => False
structure EndsOk (K : PySem.W.Frag) [Tbs K] (dk : Option Addr) (F0 : Addr → Prop) (H0 : Hp) (F1 : Addr → Prop) (H1 : Hp) (D : Ends) (PD : PEnds) : Prop where
  nx : ∀ F σ H ρ, Grow K F1 H1 F H → PInv K dk F0 H0 F σ H ρ → PD.nx ρ → D.nx σ H
  rt : ∀ F H v x, St0 K dk F0 H0 F H → Rep K dk F H v x → PD.rt x → D.rt v H
  bk : ∀ F σ H ρ, Grow K F1 H1 F H → PInv K dk F0 H0 F σ H ρ → PD.bk ρ → D.bk σ H
  ct : ∀ F σ H ρ, Grow K F1 H1 F H → PInv K dk F0 H0 F σ H ρ → PD.ct ρ → D.ct σ H
section
variable {K : PySem.W.Frag} [Tbs K] {dk : Option Addr} {F0 F F1 F2 : Addr → Prop} {H0 H H1 H2 : Hp} {E : EK} {PE : PEK} {D : Ends} {PD : PEnds}
theorem ErrS.grow (g : Grow K F1 H1 F2 H2) (e : ErrS K dk F0 H0 F1 H1 E PE) : ErrS K dk F0 H0 F2 H2 E PE := fun F σ H ρ C d fv fs g' => e F σ H ρ C d fv fs (g.trans g')
theorem EndsOk.grow (g : Grow K F1 H1 F2 H2) (e : EndsOk K dk F0 H0 F1 H1 D PD) : EndsOk K dk F0 H0 F2 H2 D PD :=
  ⟨fun F σ H ρ g' => e.nx F σ H ρ (g.trans g'), e.rt, fun F σ H ρ g' => e.bk F σ H ρ (g.trans g'), fun F σ H ρ g' => e.ct F σ H ρ (g.trans g')⟩
theorem EndsOk.withNx (e : EndsOk K dk F0 H0 F1 H1 D PD) {N : L2.St → Hp → Prop} {PN : Env → Prop} (h : ∀ F σ H ρ, Grow K F1 H1 F H → PInv K dk F0 H0 F σ H ρ → PN ρ → N σ H) : EndsOk K dk F0 H0 F1 H1 { D with nx := N } { PD with nx := PN } := ⟨h, e.rt, e.bk, e.ct⟩
end
/-- an expression -/
structure SE (K : PySem.W.Frag) [Tbs K] where
  rd : EK → TE
  wp : PEK → Env → (PV → Env → Prop) → Prop
  ok : ∀ {dk F0 H0 F σ H ρ E PE P Q}, PInv K dk F0 H0 F σ H ρ → ErrS K dk F0 H0 F H E PE → wp PE ρ P →
    (∀ v H' F' x ρ', Grow K F H F' H' → PInv K dk F0 H0 F' σ H' ρ' → Rep K dk F' H' v x → P x ρ' → Q v H') → rd E σ H Q
/-- a test -/
structure ST (K : PySem.W.Frag) [Tbs K] where
  rd : EK → TT
  wp : PEK → Env → (Bool → Env → Prop) → Prop
  ok : ∀ {dk F0 H0 F σ H ρ E PE P Q}, PInv K dk F0 H0 F σ H ρ → ErrS K dk F0 H0 F H E PE → wp PE ρ P →
    (∀ b H' F' ρ', Grow K F H F' H' → PInv K dk F0 H0 F' σ H' ρ' → P b ρ' → Q b H') → rd E σ H Q
/-- arguments -/
structure SA (K : PySem.W.Frag) [Tbs K] where
  rd : EK → TA
  wp : PEK → Env → (List PV → Env → Prop) → Prop
  ok : ∀ {dk F0 H0 F σ H ρ E PE P Q}, PInv K dk F0 H0 F σ H ρ → ErrS K dk F0 H0 F H E PE → wp PE ρ P →
    (∀ vs H' F' xs ρ', Grow K F H F' H' → PInv K dk F0 H0 F' σ H' ρ' → RepL K dk F' H' vs xs → P xs ρ' → Q vs H') → rd E σ H Q
/-- a statement -/
structure SS (K : PySem.W.Frag) [Tbs K] where
  rd : EK → TS
  wp : PEK → PEnds → Env → Prop
  ok : ∀ {dk F0 H0 F σ H ρ E PE D PD}, PInv K dk F0 H0 F σ H ρ → ErrS K dk F0 H0 F H E PE → EndsOk K dk F0 H0 F H D PD → wp PE PD ρ → rd E D σ H
/-- a target -/
structure SG (K : PySem.W.Frag) [Tbs K] where
  rd : TG
  sl : List Nat
  wp : PV → Env → (Env → Prop) → Prop
  ok : ∀ {dk F0 H0 F σ H ρ v x P Q}, PInv K dk F0 H0 F σ H ρ → Rep K dk F H v x → wp x ρ P → (∀ σ' ρ', σ'.length = σ.length → (∀ j, j ∉ sl → σ'[j]? = σ[j]?) → PInv K dk F0 H0 F σ' H ρ' → P ρ' → Q σ' H) → rd v σ H Q
/-- an operation of two values -/
structure SO (K : PySem.W.Frag) [Tbs K] where
  rd : R2
  wp : PV → PV → (PV → Prop) → Prop
  ok : ∀ {dk F0 H0 F σ H ρ v w x y P Q}, PInv K dk F0 H0 F σ H ρ → Rep K dk F H v x → Rep K dk F H w y → wp x y P →
    (∀ z H' F' u, Grow K F H F' H' → PInv K dk F0 H0 F' σ H' ρ → Rep K dk F' H' z u → P u → Q z H') → rd v w H Q
/-- an operation of one value -/
structure SU (K : PySem.W.Frag) [Tbs K] where
  rd : V → Hp → VK → Prop
  wp : PV → (PV → Prop) → Prop
  ok : ∀ {dk F0 H0 F σ H ρ v x P Q}, PInv K dk F0 H0 F σ H ρ → Rep K dk F H v x → wp x P →
    (∀ z H' F' u, Grow K F H F' H' → PInv K dk F0 H0 F' σ H' ρ → Rep K dk F' H' z u → P u → Q z H') → rd v H Q
/-- a built-in function -/
structure SB (K : PySem.W.Frag) [Tbs K] where
  rd : List V → Hp → VK → Prop
  wp : List PV → (PV → Prop) → Prop
  ok : ∀ {dk F0 H0 F σ H ρ vs xs P Q}, PInv K dk F0 H0 F σ H ρ → RepL K dk F H vs xs → wp xs P →
    (∀ z H' F' u, Grow K F H F' H' → PInv K dk F0 H0 F' σ H' ρ → Rep K dk F' H' z u → P u → Q z H') → rd vs H Q
section
variable {K : PySem.W.Frag} [Tbs K] {dk : Option Addr} {F0 F F1 F2 : Addr → Prop} {H0 H H1 H2 : Hp} {E : EK} {PE : PEK} {D : Ends} {PD : PEnds} {σ : L2.St} {ρ : Env}
theorem PInv.slot (I : PInv K dk F0 H0 F σ H ρ) {i : Nat} {s : Sl} (h : ρ[i]? = some s) : ∃ o, σ[i]? = some o ∧ SlAt K dk F H o s := by
  have hi := (List.getElem?_eq_some_iff.mp h).1
  rw [← I.len] at hi
  exact ⟨σ[i], List.getElem?_eq_getElem hi, I.sl i s _ h (List.getElem?_eq_getElem hi)⟩
/-- an own list, an own dict is given away: from now on it is a value -/
theorem PInv.frz (I : PInv K dk F0 H0 F σ H ρ) {i : Nat} {a : Addr} {x : PV} (o : OwnAt σ ρ i a) (r : Rep K dk (fun b => F b ∨ b = a) H (.ref a) x) :
    PInv K dk F0 H0 (fun b => F b ∨ b = a) σ H (ρ.set i (.val x)) ∧ Grow K F H (fun b => F b ∨ b = a) H := by
  have g : Grow K F H (fun b => F b ∨ b = a) H := ⟨fun _ h => .inl h, Tk.refl, fun _ _ _ h => h⟩
  obtain ⟨f1, f2⟩ := I.fresh i a o
  obtain ⟨u, hu, hun⟩ := I.ownNt o
  have hl : ∀ j b, OwnAt σ (ρ.set i (.val x)) j b → i ≠ j ∧ OwnAt σ ρ j b := by
    rintro j b ⟨s, hs, hw, e⟩
    rw [getE_set] at hs
    by_cases hij : i = j
    · rw [if_pos hij] at hs
      split at hs
      · cases hs; cases hw
      · cases hs
    · rw [if_neg hij] at hs
      exact ⟨hij, s, hs, hw, e⟩
  refine ⟨⟨⟨I.st.base, fun b hb => ?_, fun b hb => ?_, fun b hb => .inl (I.st.f0 b hb), fun b hb => ?_, I.st.deck, I.st.deck0, I.st.h0, I.st.tb.sub hu hun⟩, by simp [I.len], fun j s q hs hq => ?_, fun j k b h1 h2 => I.dis j k b (hl j b h1).2 (hl k b h2).2, fun j b h => ?_⟩, g⟩
  · rcases hb with hb | rfl
    · exact I.st.fnew b hb
    · exact .inr f1
  · rcases hb with hb | rfl
    · exact I.st.fall b hb
    · exact ⟨u, hu⟩
  · rcases hb with hb | rfl
    · exact I.st.fdk b hb
    · intro e
      obtain ⟨p, q, r, h⟩ := I.st.deck0 _ e
      rw [f1] at h; cases h
  · rw [getE_set] at hs
    by_cases hij : i = j
    · rw [if_pos hij] at hs
      split at hs
      · cases hs
        obtain ⟨_, _, _, e⟩ := o
        rw [← hij, e] at hq; cases hq
        exact .val r
      · cases hs
    · rw [if_neg hij] at hs
      exact (I.sl j s q hs hq).mono g fun _ _ _ => rfl
  · obtain ⟨hij, o2⟩ := hl j b h
    obtain ⟨h1, h2⟩ := I.fresh j b o2
    refine ⟨h1, fun z => z.elim h2 fun z => hij (I.dis i j a o (z ▸ o2))⟩
end
/-- what the name of slot i yields: an own thing is given away -/
def vwp (i : Nat) (ρ : Env) (P : PV → Env → Prop) : Prop :=
  match ρ[i]? with
  | some (.val x) => P x ρ
  | some (.own xs) => P (.lst xs) (ρ.set i (.val (.lst xs)))
  | some (.ownD xs) => P (.dic xs) (ρ.set i (.val (.dic xs)))
  | _ => False
namespace SE
variable {K : PySem.W.Frag} [Tbs K]
def var (i : Nat) : SE K where
  rd := fun _ => tVar i
  wp := fun _ ρ P => vwp i ρ P
  ok := by
    intro dk F0 H0 F σ H ρ E PE P Q I _ h q
    unfold vwp at h
    split at h
    · rename_i x hx
      obtain ⟨o, ho, s⟩ := I.slot hx
      cases s with
      | val r => exact ⟨_, ho, q _ _ _ _ _ Grow.refl I r h⟩
    · rename_i xs hx
      obtain ⟨o, ho, s⟩ := I.slot hx
      cases s with
      | own e r =>
        rename_i a _
        have g : Grow K F H (fun b => F b ∨ b = a) H := ⟨fun _ h => .inl h, Tk.refl, fun _ _ _ h => h⟩
        have r2 : Rep K dk (fun b => F b ∨ b = a) H (.ref a) (.lst xs) := .lst (.inr rfl) e (r.mono g)
        obtain ⟨I2, g2⟩ := I.frz ⟨_, hx, trivial, ho⟩ r2
        exact ⟨_, ho, q _ _ _ _ _ g2 I2 r2 h⟩
    · rename_i xs hx
      obtain ⟨o, ho, s⟩ := I.slot hx
      cases s with
      | ownD e r =>
        rename_i a _
        have g : Grow K F H (fun b => F b ∨ b = a) H := ⟨fun _ h => .inl h, Tk.refl, fun _ _ _ h => h⟩
        have r2 : Rep K dk (fun b => F b ∨ b = a) H (.ref a) (.dic xs) := .dic (.inr rfl) e (r.mono g)
        obtain ⟨I2, g2⟩ := I.frz ⟨_, hx, trivial, ho⟩ r2
        exact ⟨_, ho, q _ _ _ _ _ g2 I2 r2 h⟩
    · cases h
def non : SE K where
  rd := fun _ => tC .non
  wp := fun _ ρ P => P .non ρ
  ok := fun I _ h q => q _ _ _ _ _ Grow.refl I .non h
def bl (b : Bool) : SE K where
  rd := fun _ => tC (.bl b)
  wp := fun _ ρ P => P (.bl b) ρ
  ok := fun I _ h q => q _ _ _ _ _ Grow.refl I (.bl b) h
def int (i : Int) : SE K where
  rd := fun _ => tC (.int i)
  wp := fun _ ρ P => P (.int i) ρ
  ok := fun I _ h q => q _ _ _ _ _ Grow.refl I (.int i) h
def str (x : Str) : SE K where
  rd := fun _ => tC (.str x)
  wp := fun _ ρ P => P (.str x) ρ
  ok := fun I _ h q => q _ _ _ _ _ Grow.refl I (.str x) h
def op (o : SO K) (a b : SE K) : SE K where
  rd := fun E => tOp o.rd (a.rd E) (b.rd E)
  wp := fun PE ρ P => a.wp PE ρ fun x ρ1 => b.wp PE ρ1 fun y ρ2 => o.wp x y fun z => P z ρ2
  ok := by
    intro dk F0 H0 F σ H ρ E PE P Q I e h q
    refine a.ok I e h fun v H1 F1 x ρ1 g1 I1 r1 h1 => ?_
    refine b.ok I1 (e.grow g1) h1 fun w H2 F2 y ρ2 g2 I2 r2 h2 => ?_
    exact o.ok I2 (r1.mono g2) r2 h2 fun z H3 F3 u g3 I3 r3 h3 => q z H3 F3 u ρ2 ((g1.trans g2).trans g3) I3 r3 h3
def un (o : SU K) (a : SE K) : SE K where
  rd := fun E => tUn o.rd (a.rd E)
  wp := fun PE ρ P => a.wp PE ρ fun x ρ1 => o.wp x fun z => P z ρ1
  ok := by
    intro dk F0 H0 F σ H ρ E PE P Q I e h q
    refine a.ok I e h fun v H1 F1 x ρ1 g1 I1 r1 h1 => ?_
    exact o.ok I1 r1 h1 fun z H3 F3 u g3 I3 r3 h3 => q z H3 F3 u ρ1 (g1.trans g3) I3 r3 h3
def cb (o : SB K) (a : SA K) : SE K where
  rd := fun E => tCB o.rd (a.rd E)
  wp := fun PE ρ P => a.wp PE ρ fun xs ρ1 => o.wp xs fun z => P z ρ1
  ok := by
    intro dk F0 H0 F σ H ρ E PE P Q I e h q
    refine a.ok I e h fun v H1 F1 x ρ1 g1 I1 r1 h1 => ?_
    exact o.ok I1 r1 h1 fun z H3 F3 u g3 I3 r3 h3 => q z H3 F3 u ρ1 (g1.trans g3) I3 r3 h3
def tup (a : SA K) : SE K where
  rd := fun E => tTup (a.rd E)
  wp := fun PE ρ P => a.wp PE ρ fun xs ρ1 => xs.length ≤ sizeLine ∧ P (.tup xs) ρ1
  ok := by
    intro dk F0 H0 F σ H ρ E PE P Q I e h q
    refine a.ok I e h fun v H1 F1 x ρ1 g1 I1 r1 h1 => ?_
    refine ⟨by rw [r1.len]; exact h1.1, fun p hp => ?_⟩
    exact q _ _ _ _ _ (g1.trans (Grow.new hp)) (I1.new hp) (.tup (SqT.of upd_same) (r1.mono (Grow.new hp))) h1.2
def lst (a : SA K) : SE K where
  rd := fun E => tLst (a.rd E)
  wp := fun PE ρ P => a.wp PE ρ fun xs ρ1 => xs.length ≤ sizeLine ∧ P (.lst xs) ρ1
  ok := by
    intro dk F0 H0 F σ H ρ E PE P Q I e h q
    refine a.ok I e h fun v H1 F1 x ρ1 g1 I1 r1 h1 => ?_
    refine ⟨by rw [r1.len]; exact h1.1, fun p hp => ?_⟩
    exact q _ _ _ _ _ (g1.trans (Grow.newF hp)) (I1.newF hp) (.lst (.inr rfl) upd_same (r1.mono (Grow.newF hp))) h1.2
def ifE (c : ST K) (a b : SE K) : SE K where
  rd := fun E => tIf (c.rd E) (a.rd E) (b.rd E)
  wp := fun PE ρ P => c.wp PE ρ fun k ρ1 => if k = true then a.wp PE ρ1 P else b.wp PE ρ1 P
  ok := by
    intro dk F0 H0 F σ H ρ E PE P Q I e h q
    refine c.ok I e h fun k H1 F1 ρ1 g1 I1 h1 => ?_
    cases k with
    | true => exact a.ok I1 (e.grow g1) h1 fun v H2 F2 x ρ2 g2 I2 r2 h2 => q v H2 F2 x ρ2 (g1.trans g2) I2 r2 h2
    | false => exact b.ok I1 (e.grow g1) h1 fun v H2 F2 x ρ2 g2 I2 r2 h2 => q v H2 F2 x ρ2 (g1.trans g2) I2 r2 h2
def andV (a b : SE K) : SE K where
  rd := fun E => tAndV (a.rd E) (b.rd E)
  wp := fun PE ρ P => a.wp PE ρ fun x ρ1 => ∃ c, x = .bl c ∧ if c = true then b.wp PE ρ1 P else P (.bl false) ρ1
  ok := by
    intro dk F0 H0 F σ H ρ E PE P Q I e h q
    refine a.ok I e h fun v H1 F1 x ρ1 g1 I1 r1 h1 => ?_
    obtain ⟨c, rfl, h1⟩ := h1
    cases r1
    refine ⟨c, rfl, ?_⟩
    cases c with
    | true => exact b.ok I1 (e.grow g1) h1 fun v H2 F2 x ρ2 g2 I2 r2 h2 => q v H2 F2 x ρ2 (g1.trans g2) I2 r2 h2
    | false => exact q _ _ _ _ _ g1 I1 (.bl _) h1
def orV (a b : SE K) : SE K where
  rd := fun E => tOrV (a.rd E) (b.rd E)
  wp := fun PE ρ P => a.wp PE ρ fun x ρ1 => ∃ c, x = .bl c ∧ if c = true then P (.bl true) ρ1 else b.wp PE ρ1 P
  ok := by
    intro dk F0 H0 F σ H ρ E PE P Q I e h q
    refine a.ok I e h fun v H1 F1 x ρ1 g1 I1 r1 h1 => ?_
    obtain ⟨c, rfl, h1⟩ := h1
    cases r1
    refine ⟨c, rfl, ?_⟩
    cases c with
    | true => exact q _ _ _ _ _ g1 I1 (.bl _) h1
    | false => exact b.ok I1 (e.grow g1) h1 fun v H2 F2 x ρ2 g2 I2 r2 h2 => q v H2 F2 x ρ2 (g1.trans g2) I2 r2 h2
def notV (a : SE K) : SE K where
  rd := fun E => tNotV (a.rd E)
  wp := fun PE ρ P => a.wp PE ρ fun x ρ1 => ∃ c, x = .bl c ∧ P (.bl (!c)) ρ1
  ok := by
    intro dk F0 H0 F σ H ρ E PE P Q I e h q
    refine a.ok I e h fun v H1 F1 x ρ1 g1 I1 r1 h1 => ?_
    obtain ⟨c, rfl, h1⟩ := h1
    cases r1
    exact ⟨c, rfl, q _ _ _ _ _ g1 I1 (.bl _) h1⟩
end SE
def PV.isN : PV → Bool
  | .non => true
  | _ => false
theorem Rep.isN {K : PySem.W.Frag} [Tbs K] {dk : Option Addr} {F : Addr → Prop} {H : Hp} {v : V} {x : PV} (r : Rep K dk F H v x) : decide (v = .non) = x.isN := by
  cases r <;> rfl
namespace SE
variable {K : PySem.W.Frag} [Tbs K]
def isN (a : SE K) : SE K where
  rd := fun E => tIsN (a.rd E)
  wp := fun PE ρ P => a.wp PE ρ fun x ρ1 => P (.bl x.isN) ρ1
  ok := by
    intro dk F0 H0 F σ H ρ E PE P Q I e h q
    refine a.ok I e h fun v H1 F1 x ρ1 g1 I1 r1 h1 => ?_
    show Q (.bl (decide (v = .non))) H1
    rw [r1.isN]
    exact q _ _ _ _ _ g1 I1 (.bl _) h1
def notN (a : SE K) : SE K where
  rd := fun E => tNotN (a.rd E)
  wp := fun PE ρ P => a.wp PE ρ fun x ρ1 => P (.bl (!x.isN)) ρ1
  ok := by
    intro dk F0 H0 F σ H ρ E PE P Q I e h q
    refine a.ok I e h fun v H1 F1 x ρ1 g1 I1 r1 h1 => ?_
    show Q (.bl (!decide (v = .non))) H1
    rw [r1.isN]
    exact q _ _ _ _ _ g1 I1 (.bl _) h1
end SE
namespace SA
variable {K : PySem.W.Frag} [Tbs K]
def nil : SA K where
  rd := fun _ => tNil
  wp := fun _ ρ P => P [] ρ
  ok := fun I _ h q => q _ _ _ _ _ Grow.refl I .nil h
def cons (a : SE K) (t : SA K) : SA K where
  rd := fun E => tCons (a.rd E) (t.rd E)
  wp := fun PE ρ P => a.wp PE ρ fun x ρ1 => t.wp PE ρ1 fun xs ρ2 => P (x :: xs) ρ2
  ok := by
    intro dk F0 H0 F σ H ρ E PE P Q I e h q
    refine a.ok I e h fun v H1 F1 x ρ1 g1 I1 r1 h1 => ?_
    exact t.ok I1 (e.grow g1) h1 fun vs H2 F2 xs ρ2 g2 I2 r2 h2 => q _ _ _ _ _ (g1.trans g2) I2 (.cons (r1.mono g2) r2) h2
end SA
namespace ST
variable {K : PySem.W.Frag} [Tbs K]
def test (a : SE K) : ST K where
  rd := fun E => tTest (a.rd E)
  wp := fun PE ρ P => a.wp PE ρ fun x ρ1 => ∃ k, x = .bl k ∧ P k ρ1
  ok := by
    intro dk F0 H0 F σ H ρ E PE P Q I e h q
    refine a.ok I e h fun v H1 F1 x ρ1 g1 I1 r1 h1 => ?_
    obtain ⟨c, rfl, h1⟩ := h1
    cases r1
    exact ⟨c, rfl, q _ _ _ _ g1 I1 h1⟩
def b (a : SE K) : ST K where
  rd := fun E => tB (a.rd E)
  wp := fun PE ρ P => a.wp PE ρ fun x ρ1 => ∃ k, x = .bl k ∧ P k ρ1
  ok := by
    intro dk F0 H0 F σ H ρ E PE P Q I e h q
    refine a.ok I e h fun v H1 F1 x ρ1 g1 I1 r1 h1 => ?_
    obtain ⟨c, rfl, h1⟩ := h1
    cases r1
    exact ⟨c, rfl, q _ _ _ _ g1 I1 h1⟩
def not (t : ST K) : ST K where
  rd := fun E => tNot (t.rd E)
  wp := fun PE ρ P => t.wp PE ρ fun k ρ1 => P (!k) ρ1
  ok := by
    intro dk F0 H0 F σ H ρ E PE P Q I e h q
    exact t.ok I e h fun k H1 F1 ρ1 g1 I1 h1 => q _ _ _ _ g1 I1 h1
def and (t u : ST K) : ST K where
  rd := fun E => tAnd (t.rd E) (u.rd E)
  wp := fun PE ρ P => t.wp PE ρ fun k ρ1 => if k = true then u.wp PE ρ1 P else P false ρ1
  ok := by
    intro dk F0 H0 F σ H ρ E PE P Q I e h q
    refine t.ok I e h fun k H1 F1 ρ1 g1 I1 h1 => ?_
    cases k with
    | true => exact u.ok I1 (e.grow g1) h1 fun v H2 F2 ρ2 g2 I2 h2 => q v H2 F2 ρ2 (g1.trans g2) I2 h2
    | false => exact q _ _ _ _ g1 I1 h1
def or (t u : ST K) : ST K where
  rd := fun E => tOr (t.rd E) (u.rd E)
  wp := fun PE ρ P => t.wp PE ρ fun k ρ1 => if k = true then P true ρ1 else u.wp PE ρ1 P
  ok := by
    intro dk F0 H0 F σ H ρ E PE P Q I e h q
    refine t.ok I e h fun k H1 F1 ρ1 g1 I1 h1 => ?_
    cases k with
    | true => exact q _ _ _ _ g1 I1 h1
    | false => exact u.ok I1 (e.grow g1) h1 fun v H2 F2 ρ2 g2 I2 h2 => q v H2 F2 ρ2 (g1.trans g2) I2 h2
/-- no test -/
def yes : ST K where
  rd := fun _ => tYes
  wp := fun _ ρ P => P true ρ
  ok := fun I _ h q => q _ _ _ _ Grow.refl I h
end ST
/-- the truth of a value -/
def PV.tru : PV → (Bool → Prop) → Prop
  | .non, P => P false
  | .bl b, P => P b
  | .int i, P => P (i != 0)
  | .str y, P => y.length ≤ sizeLine ∧ P ((y.length : Int) != 0)
  | .tup xs, P => P (!xs.isEmpty)
  | .lst xs, P => P (!xs.isEmpty)
  | .dic xs, P => P (!xs.isEmpty)
  | .deck, _ => False
  | .frt xs, P => P (!xs.isEmpty)
section
variable {K : PySem.W.Frag} [Tbs K] {dk : Option Addr} {F : Addr → Prop} {H : Hp}
theorem RepL.emp {vs : List V} {xs : List PV} (r : RepL K dk F H vs xs) : vs.isEmpty = xs.isEmpty := by cases r <;> rfl
theorem RepK.emp {vs : List (Key × V)} {xs : List (Key × PV)} (r : RepK K dk F H vs xs) : vs.isEmpty = xs.isEmpty := by cases r <;> rfl
theorem Rep.truV {v : V} {x : PV} {P : Bool → Prop} (r : Rep K dk F H v x) (h : x.tru P) : ∃ k, TruV K v H k ∧ P k := by
  cases r with
  | non => exact ⟨_, rfl, h⟩
  | bl b => exact ⟨_, rfl, h⟩
  | int i => exact ⟨_, rfl, h⟩
  | str y => exact ⟨_, ⟨h.1, rfl⟩, h.2⟩
  | tup s l => exact ⟨_, .inr (.inl ⟨_, s, rfl⟩), by rw [l.emp]; exact h⟩
  | lst f e l => exact ⟨_, .inl ⟨_, SqL.of e, rfl⟩, by rw [l.emp]; exact h⟩
  | dic f e l => exact ⟨_, .inr (.inr ⟨_, e, rfl⟩), by rw [l.emp]; exact h⟩
  | deck e => cases h
  | frt s t l => exact ⟨_, .inr (.inl ⟨_, s, rfl⟩), by rw [l.emp]; exact h⟩
end
namespace ST
variable {K : PySem.W.Frag} [Tbs K]
def tru (a : SE K) : ST K where
  rd := fun E => tTru K (a.rd E)
  wp := fun PE ρ P => a.wp PE ρ fun x ρ1 => x.tru fun k => P k ρ1
  ok := by
    intro dk F0 H0 F σ H ρ E PE P Q I e h q
    refine a.ok I e h fun v H1 F1 x ρ1 g1 I1 r1 h1 => ?_
    obtain ⟨k, hk, h1⟩ := r1.truV h1
    exact ⟨k, hk, q _ _ _ _ g1 I1 h1⟩
end ST
namespace SG
variable {K : PySem.W.Frag} [Tbs K]
def name (i : Nat) : SG K where
  rd := gName i
  sl := [i]
  wp := fun x ρ P => P (ρ.set i (.val x))
  ok := fun I r h q => q _ _ (List.length_set ..) (fun j hj => by rw [getE_set, if_neg (fun e => hj (List.mem_singleton.mpr e.symm))]) (I.setV r) h
end SG
namespace SS
variable {K : PySem.W.Frag} [Tbs K]
def next : SS K where
  rd := fun _ => tNext
  wp := fun _ PD ρ => PD.nx ρ
  ok := fun I _ d h => d.nx _ _ _ _ Grow.refl I h
def brk : SS K where
  rd := fun _ => tBreak
  wp := fun _ PD ρ => PD.bk ρ
  ok := fun I _ d h => d.bk _ _ _ _ Grow.refl I h
def cont : SS K where
  rd := fun _ => tCont
  wp := fun _ PD ρ => PD.ct ρ
  ok := fun I _ d h => d.ct _ _ _ _ Grow.refl I h
def never : SS K where
  rd := fun _ => tNever
  wp := fun _ _ _ => False
  ok := fun _ _ _ h => h.elim
def seq (t u : SS K) : SS K where
  rd := fun E => tSeq (t.rd E) (u.rd E)
  wp := fun PE PD ρ => t.wp PE { PD with nx := fun ρ' => u.wp PE PD ρ' } ρ
  ok := by
    intro dk F0 H0 F σ H ρ E PE D PD I e d h
    exact t.ok I e (d.withNx fun F' σ' H' ρ' g I' h' => u.ok I' (e.grow g) (d.grow g) h') h
def cut (t u : SS K) : SS K where
  rd := fun E => C8.tCut (t.rd E) (u.rd E)
  wp := fun PE PD ρ => t.wp PE { PD with nx := fun ρ' => u.wp PE PD ρ' } ρ
  ok := by
    intro dk F0 H0 F σ H ρ E PE D PD I e d h
    refine ⟨fun σ' H' => ∃ F' ρ', Grow K F H F' H' ∧ PInv K dk F0 H0 F' σ' H' ρ' ∧ u.wp PE PD ρ', ?_, ?_⟩
    · exact t.ok I e (d.withNx fun F' σ' H' ρ' g I' h' => ⟨F', ρ', g, I', h'⟩) h
    · rintro σ' H' ⟨F', ρ', g, I', h'⟩
      exact u.ok I' (e.grow g) (d.grow g) h'
def asg (a : SE K) (g : SG K) : SS K where
  rd := fun E => tAsg (a.rd E) g.rd
  wp := fun PE PD ρ => a.wp PE ρ fun x ρ1 => g.wp x ρ1 PD.nx
  ok := by
    intro dk F0 H0 F σ H ρ E PE D PD I e d h
    refine a.ok I e h fun v H1 F1 x ρ1 g1 I1 r1 h1 => ?_
    exact g.ok I1 r1 h1 fun σ' ρ' _ _ I' h' => d.nx _ _ _ _ g1 I' h'
def drop (a : SE K) : SS K where
  rd := fun E => tDrop (a.rd E)
  wp := fun PE PD ρ => a.wp PE ρ fun _ ρ1 => PD.nx ρ1
  ok := by
    intro dk F0 H0 F σ H ρ E PE D PD I e d h
    exact a.ok I e h fun v H1 F1 x ρ1 g1 I1 r1 h1 => d.nx _ _ _ _ g1 I1 h1
def ret (a : SE K) : SS K where
  rd := fun E => tRet (a.rd E)
  wp := fun PE PD ρ => a.wp PE ρ fun x _ => PD.rt x
  ok := by
    intro dk F0 H0 F σ H ρ E PE D PD I e d h
    exact a.ok I e h fun v H1 F1 x ρ1 g1 I1 r1 h1 => d.rt _ _ _ _ I1.st r1 h1
def retN : SS K where
  rd := fun _ => tRetN
  wp := fun _ PD _ => PD.rt .non
  ok := fun I _ d h => d.rt _ _ _ _ I.st .non h
def ifS (c : ST K) (t u : SS K) : SS K where
  rd := fun E => tIfS (c.rd E) (t.rd E) (u.rd E)
  wp := fun PE PD ρ => c.wp PE ρ fun k ρ1 => if k = true then t.wp PE PD ρ1 else u.wp PE PD ρ1
  ok := by
    intro dk F0 H0 F σ H ρ E PE D PD I e d h
    refine c.ok I e h fun k H1 F1 ρ1 g1 I1 h1 => ?_
    cases k with
    | true => exact t.ok I1 (e.grow g1) (d.grow g1) h1
    | false => exact u.ok I1 (e.grow g1) (d.grow g1) h1
end SS
end Tw
set_option Elab.async false
set_option linter.all false
set_option maxRecDepth 100000
set_option maxHeartbeats 4000000
/-! The plain layer: loops, comprehensions, calls, new lists, own lists. -/
namespace Tw
open PySem PySem.Spec PyProof.Rows L2
/-- J walks xs -/
def WalkOk (K : PySem.W.Frag) [Tbs K] (dk : Option Addr) (F : Addr → Prop) (H : Hp) (J : It) (xs : List PV) : Prop :=
  ∃ (G : Hp → Prop) (Y : Nat → Hp → V → Hp → Prop), Walk J xs.length G Y ∧ (∀ F' H', Grow K F H F' H' → G H') ∧
    ∀ i F' H' v H'', i < xs.length → Grow K F H F' H' → Y i H' v H'' → (H'' = H' ∨ ∃ p ys, H' p = none ∧ H'' = upd H' p (.tup ys)) ∧ ∃ x, xs[i]? = some x ∧ Rep K dk F' H'' v x
structure SI (K : PySem.W.Frag) [Tbs K] where
  rd : EK → TI
  wp : PEK → Env → (List PV → Env → Prop) → Prop
  ok : ∀ {dk F0 H0 F σ H ρ E PE P R}, PInv K dk F0 H0 F σ H ρ → ErrS K dk F0 H0 F H E PE → wp PE ρ P →
    (∀ J H' F' xs ρ', Grow K F H F' H' → PInv K dk F0 H0 F' σ H' ρ' → WalkOk K dk F' H' J xs → P xs ρ' → R J H') → rd E σ H R
def wpFor (step : PV → Env → PEnds → Prop) : List PV → Env → PEnds → Prop
  | [], ρ, PD => PD.nx ρ
  | x :: xs, ρ, PD => step x ρ { PD with nx := fun ρ' => wpFor step xs ρ' PD, ct := fun ρ' => wpFor step xs ρ' PD, bk := PD.nx }
def wpWhile (c : Env → (Bool → Env → Prop) → Prop) (b : PEnds → Env → Prop) (PD : PEnds) : Nat → Env → Prop
  | 0, _ => False
  | n + 1, ρ => c ρ fun k ρ1 => if k = true then b { PD with nx := wpWhile c b PD n, ct := wpWhile c b PD n, bk := PD.nx } ρ1 else PD.nx ρ1
section
variable {K : PySem.W.Frag} [Tbs K] {dk : Option Addr} {F0 F F1 F2 : Addr → Prop} {H0 H H1 H2 : Hp} {E : EK} {PE : PEK} {D : Ends} {PD : PEnds} {σ : L2.St} {ρ : Env}
/-- what a turn yields is laid -/
theorem PInv.turn (I : PInv K dk F0 H0 F σ H ρ) {H' : Hp} (h : H' = H ∨ ∃ p ys, H p = none ∧ H' = upd H p (.tup ys)) : PInv K dk F0 H0 F σ H' ρ ∧ Grow K F H F H' := by
  rcases h with rfl | ⟨p, ys, hp, rfl⟩
  · exact ⟨I, Grow.refl⟩
  · exact ⟨I.new hp, Grow.new hp⟩
end
namespace SS
variable {K : PySem.W.Frag} [Tbs K]
def for_ (wi : SI K) (g : SG K) (b : SS K) : SS K where
  rd := fun E => tFor (wi.rd E) g.rd (b.rd E)
  wp := fun PE PD ρ => wi.wp PE ρ fun xs ρ1 => wpFor (fun x ρ2 PD' => g.wp x ρ2 fun ρ3 => b.wp PE PD' ρ3) xs ρ1 PD
  ok := by
    intro dk F0 H0 F σ H ρ E PE D PD I e d h
    rw [o_for]
    refine wi.ok I e h fun J H1 F1 xs ρ1 g1 I1 wk h1 => ?_
    obtain ⟨G, Y, wk, wG, wY⟩ := wk
    refine fb_walk wk (fun i σ' H' => ∃ F' ρ', Grow K F1 H1 F' H' ∧ PInv K dk F0 H0 F' σ' H' ρ' ∧ wpFor (fun x ρ2 PD' => g.wp x ρ2 fun ρ3 => b.wp PE PD' ρ3) (xs.drop i) ρ' PD) ?_ ?_ ?_ ?_
    · exact ⟨F1, ρ1, Grow.refl, I1, h1⟩
    · rintro i σ' H' _ ⟨F', ρ', g', _⟩
      exact wG F' H' g'
    · rintro i v σ' H' H'' hi ⟨F', ρ', g', I', h'⟩ hy
      obtain ⟨hh, x, hx, r⟩ := wY i F' H' v H'' hi g' hy
      obtain ⟨I2, g2⟩ := I'.turn hh
      have e2 : xs.drop i = x :: xs.drop (i + 1) := by
        rw [List.drop_eq_getElem_cons hi]
        congr 1
        rw [List.getElem?_eq_getElem hi] at hx
        exact Option.some.inj hx
      rw [e2] at h'
      have g12 := (g1.trans g').trans g2
      refine g.ok I2 r h' fun σ3 ρ3 _ _ I3 h3 => b.ok I3 (e.grow g12) ⟨?_, ?_, ?_, ?_⟩ h3
      · exact fun F4 σ4 H4 ρ4 g4 I4 h4 => ⟨F4, ρ4, (g'.trans g2).trans g4, I4, h4⟩
      · exact d.rt
      · exact fun F4 σ4 H4 ρ4 g4 I4 h4 => d.nx _ _ _ _ (g12.trans g4) I4 h4
      · exact fun F4 σ4 H4 ρ4 g4 I4 h4 => ⟨F4, ρ4, (g'.trans g2).trans g4, I4, h4⟩
    · rintro σ' H' ⟨F', ρ', g', I', h'⟩
      rw [List.drop_length] at h'
      exact d.nx _ _ _ _ (g1.trans g') I' h'
def while_ (c : ST K) (b : SS K) : SS K where
  rd := fun E => tWhile (c.rd E) (b.rd E)
  wp := fun PE PD ρ => ∃ n, wpWhile (c.wp PE) (b.wp PE) PD n ρ
  ok := by
    intro dk F0 H0 F σ H ρ E PE D PD I e d h
    obtain ⟨n, h⟩ := h
    refine ⟨fun m σ' H' => ∃ F' ρ', Grow K F H F' H' ∧ PInv K dk F0 H0 F' σ' H' ρ' ∧ wpWhile (c.wp PE) (b.wp PE) PD m ρ', ⟨n, F, ρ, Grow.refl, I, h⟩, ?_⟩
    rintro m σ' H' ⟨F', ρ', g', I', h'⟩
    cases m with
    | zero => cases h'
    | succ m =>
      refine c.ok I' (e.grow g') h' fun k H2 F2 ρ2 g2 I2 h2 => ?_
      have g12 := g'.trans g2
      cases k with
      | false => exact d.nx _ _ _ _ g12 I2 h2
      | true =>
        refine ⟨fun σ3 H3 => ∃ F3 ρ3, Grow K F H F3 H3 ∧ PInv K dk F0 H0 F3 σ3 H3 ρ3 ∧ wpWhile (c.wp PE) (b.wp PE) PD m ρ3, fun σ3 H3 h3 => ⟨m, Nat.lt_succ_self m, h3⟩, ?_⟩
        refine b.ok I2 (e.grow g12) ⟨?_, ?_, ?_, ?_⟩ h2
        · exact fun F4 σ4 H4 ρ4 g4 I4 h4 => ⟨F4, ρ4, g12.trans g4, I4, h4⟩
        · exact d.rt
        · exact fun F4 σ4 H4 ρ4 g4 I4 h4 => d.nx _ _ _ _ (g12.trans g4) I4 h4
        · exact fun F4 σ4 H4 ρ4 g4 I4 h4 => ⟨F4, ρ4, g12.trans g4, I4, h4⟩
end SS
/-! ### a list under way: at D, in nobody's hand -/
section
variable {K : PySem.W.Frag} [Tbs K] {dk : Option Addr} {F0 F F1 F2 : Addr → Prop} {H0 H H1 H2 : Hp} {E : EK} {PE : PEK} {D : Addr} {o o' : HO} {σ : L2.St} {ρ : Env}
theorem PInv.unbase (h0 : H0 D = none) (hd : dk ≠ some D) (I : PInv K dk F0 (upd H0 D o) F σ H ρ) : PInv K dk F0 H0 F σ H ρ := by
  have nk : ∀ d, dk = some d → d ≠ D := fun d h e => hd (e ▸ h)
  have hn : ∀ b, upd H0 D o b = none → H0 b = none := fun b h => by
    by_cases e : b = D
    · rw [e]; exact h0
    · rw [upd_ne e] at h; exact h
  refine ⟨⟨fun b u h n => I.st.base b u (by rw [upd_ne (ne_of_none h h0)]; exact h) n, fun b h => (I.st.fnew b h).imp id (hn b), I.st.fall, I.st.f0, I.st.fdk, I.st.deck, fun d h => ?_, fun b ps e => I.st.h0 b ps (by rw [upd_ne (ne_of_none e h0)]; exact e), I.st.tb⟩, I.len, I.sl, I.dis, fun i a h => ⟨hn a (I.fresh i a h).1, (I.fresh i a h).2⟩⟩
  obtain ⟨x, y, z, q⟩ := I.st.deck0 d h
  rw [upd_ne (nk _ h)] at q
  exact ⟨x, y, z, q⟩
/-- D is guarded from now on -/
theorem PInv.rebase (h0 : H0 D = none) (hd : dk ≠ some D) (hD : H D = some o) (hf : ¬ F D) (ho : ∀ i, ¬ OwnAt σ ρ i D) (I : PInv K dk F0 H0 F σ H ρ) (hnt : ∀ ps, o ≠ .tbl ps := by intro _ e; cases e) : PInv K dk F0 (upd H0 D o) F σ H ρ := by
  have nk : ∀ d, dk = some d → d ≠ D := fun d h e => hd (e ▸ h)
  have nf1 : ∀ b, F b → b ≠ D := fun b h e => hf (e ▸ h)
  have no1 : ∀ i a, OwnAt σ ρ i a → a ≠ D := fun i a h e => ho i (e ▸ h)
  refine ⟨⟨fun b u h n => ?_, fun b h => ?_, I.st.fall, I.st.f0, I.st.fdk, I.st.deck, fun d h => ?_, fun b ps h => ?_, I.st.tb⟩, I.len, I.sl, I.dis, fun i a h => ⟨?_, (I.fresh i a h).2⟩⟩
  · by_cases e : b = D
    · rw [e, upd_same] at h; cases h; rw [e]; exact hD
    · rw [upd_ne e] at h; exact I.st.base b u h n
  · rw [upd_ne (nf1 _ h)]; exact I.st.fnew b h
  · obtain ⟨x, y, z, q⟩ := I.st.deck0 d h
    exact ⟨x, y, z, by rw [upd_ne (nk _ h)]; exact q⟩
  · by_cases e : b = D
    · rw [e, upd_same] at h; exact hnt ps (Option.some.inj h)
    · rw [upd_ne e] at h; exact I.st.h0 b ps h
  · rw [upd_ne (no1 _ _ h)]; exact (I.fresh i a h).1
theorem PInv.offD (h0 : H0 D = none) (nf : ¬ F0 D) (I : PInv K dk F0 (upd H0 D o) F σ H ρ) : ¬ F D ∧ ∀ i, ¬ OwnAt σ ρ i D := by
  refine ⟨fun h => ?_, fun i h => ?_⟩
  · rcases I.st.fnew D h with h | h
    · exact nf h
    · rw [upd_same] at h; cases h
  · have := (I.fresh i D h).1
    rw [upd_same] at this; cases this
/-- the list under way is changed -/
theorem PInv.chgD {xs ys : List V} (h0 : H0 D = none) (nf : ¬ F0 D) (hd : dk ≠ some D) (I : PInv K dk F0 (upd H0 D (.lst xs)) F σ H ρ) : PInv K dk F0 (upd H0 D (.lst ys)) F σ (upd H D (.lst ys)) ρ ∧ Grow K F H F (upd H D (.lst ys)) := by
  have nk : ∀ d, dk = some d → d ≠ D := fun d h e => hd (e ▸ h)
  obtain ⟨f1, f2⟩ := I.offD h0 nf
  have hD : H D = some (.lst xs) := I.st.base D _ upd_same hd
  have ne1 : ∀ b, F b → b ≠ D := fun b h z => f1 (z ▸ h)
  have g : Grow K F H F (upd H D (.lst ys)) := by
    refine ⟨fun _ h => h, fun b us q => ?_, fun b v h e => by rw [upd_ne (ne1 b h)]; exact e⟩
    rcases q with q | q
    · rcases q with q | ⟨u, q⟩
      · exact .inl (.inl (by rw [upd_ne (fun z => by rw [z, hD] at q; cases q)]; exact q))
      · exact .inl (.inr ⟨u, by rw [upd_ne (fun z => by rw [z, hD] at q; cases q)]; exact q⟩)
    · exact .inr q
  refine ⟨⟨⟨fun b u h n => ?_, fun b h => ?_, fun b h => ?_, I.st.f0, I.st.fdk, fun d h => ?_, fun d h => ?_, fun b ps h => ?_, I.st.tb.chg f1 (fun ps q => by rw [hD] at q; cases q) (fun c q' q => by unfold LamX.CodeO at q; rw [hD] at q; cases q)⟩, I.len, fun i s q hs hq => ?_, I.dis, fun i a h => ⟨?_, (I.fresh i a h).2⟩⟩, g⟩
  · by_cases e : b = D
    · rw [e, upd_same] at h ⊢; exact h
    · rw [upd_ne e] at h ⊢; exact I.st.base b u (by rw [upd_ne e]; exact h) n
  · have := I.st.fnew b h
    rw [upd_ne (ne1 b h)] at this ⊢; exact this
  · obtain ⟨u, e⟩ := I.st.fall b h
    exact ⟨u, by rw [upd_ne (ne1 b h)]; exact e⟩
  · obtain ⟨x, y, z, q⟩ := I.st.deck d h
    exact ⟨x, y, z, by rw [upd_ne (nk _ h)]; exact q⟩
  · obtain ⟨x, y, z, q⟩ := I.st.deck0 d h
    rw [upd_ne (nk _ h)] at q
    exact ⟨x, y, z, by rw [upd_ne (nk _ h)]; exact q⟩
  · by_cases e : b = D
    · rw [e, upd_same] at h; cases h
    · rw [upd_ne e] at h; exact I.st.h0 b ps (by rw [upd_ne e]; exact h)
  · refine (I.sl i s q hs hq).mono g fun a w e => upd_ne fun z => ?_
    exact f2 i ⟨s, hs, w, by rw [hq, e, z]⟩
  · have := (I.fresh i a h).1
    have ne : a ≠ D := fun z => f2 i (z ▸ h)
    rw [upd_ne ne] at this ⊢; exact this
theorem ErrS.rebase (h0 : H0 D = none) (hd : dk ≠ some D) (e : ErrS K dk F0 H0 F1 H1 E PE) : ErrS K dk F0 (upd H0 D o) F1 H1 E PE := fun F σ H ρ C d fv fs g I rf ed =>
  e F σ H ρ C d fv fs g (I.unbase h0 hd) rf (ed.imp id fun ⟨a, h1, h2, h3, h4⟩ => ⟨a, h1, h2, by
    by_cases q : a = D
    · rw [q]; exact h0
    · rw [upd_ne q] at h3; exact h3, h4⟩)
/-- a thing in nobody's hand is given away -/
theorem PInv.intoF (f : H0 D = none ∧ ¬ F D) (hD : H D = some o) (hd : dk ≠ some D) (ho : ∀ i, ¬ OwnAt σ ρ i D) (I : PInv K dk F0 H0 F σ H ρ) (hnt : ∀ ps, o ≠ .tbl ps := by intro _ e; cases e) : PInv K dk F0 H0 (fun b => F b ∨ b = D) σ H ρ ∧ Grow K F H (fun b => F b ∨ b = D) H := by
  have g : Grow K F H (fun b => F b ∨ b = D) H := ⟨fun _ h => .inl h, Tk.refl, fun _ _ _ h => h⟩
  refine ⟨⟨⟨I.st.base, fun b hb => ?_, fun b hb => ?_, fun b hb => .inl (I.st.f0 b hb), fun b hb => ?_, I.st.deck, I.st.deck0, I.st.h0, I.st.tb.sub hD hnt⟩, I.len, fun j s q hs hq => (I.sl j s q hs hq).mono g fun _ _ _ => rfl, I.dis, fun j b h => ⟨(I.fresh j b h).1, fun z => z.elim (I.fresh j b h).2 fun z => ho j (z ▸ h)⟩⟩, g⟩
  · rcases hb with hb | rfl
    · exact I.st.fnew b hb
    · exact .inr f.1
  · rcases hb with hb | rfl
    · exact I.st.fall b hb
    · exact ⟨o, hD⟩
  · rcases hb with hb | rfl
    · exact I.st.fdk b hb
    · exact hd
end
/-- an expression that lays a new list (in nobody's hand yet) -/
structure SN (K : PySem.W.Frag) [Tbs K] where
  rd : EK → TE
  wp : PEK → Env → (List PV → Env → Prop) → Prop
  ok : ∀ {dk F0 H0 F σ H ρ E PE P Q}, PInv K dk F0 H0 F σ H ρ → ErrS K dk F0 H0 F H E PE → wp PE ρ P →
    (∀ a vs H' F' xs ρ', Grow K F H F' H' → PInv K dk F0 H0 F' σ H' ρ' → H' a = some (.lst vs) → RepL K dk F' H' vs xs → H0 a = none → ¬ F' a → dk ≠ some a → (∀ i, ¬ OwnAt σ ρ' i a) → P xs ρ' → Q (.ref a) H') → rd E σ H Q
section
variable {K : PySem.W.Frag} [Tbs K] {dk : Option Addr} {F0 F : Addr → Prop} {H0 H : Hp} {σ : L2.St} {ρ : Env}
/-- a list is laid -/
theorem PInv.laid (I : PInv K dk F0 H0 F σ H ρ) {p : Addr} (hp : H p = none) {vs : List V} {xs : List PV} (r : RepL K dk F H vs xs) :
    PInv K dk F0 H0 F σ (upd H p (.lst vs)) ρ ∧ Grow K F H F (upd H p (.lst vs)) ∧ upd H p (.lst vs) p = some (.lst vs) ∧ RepL K dk F (upd H p (.lst vs)) vs xs ∧ H0 p = none ∧ ¬ F p ∧ dk ≠ some p ∧ ∀ i, ¬ OwnAt σ ρ i p := by
  obtain ⟨f1, f2⟩ := I.st.freshOf hp
  refine ⟨I.new hp, Grow.new hp, upd_same, r.mono (Grow.new hp), f1, f2, fun e => ?_, fun i h => ?_⟩
  · obtain ⟨x, y, z, q⟩ := I.st.deck p e
    rw [hp] at q; cases q
  · obtain ⟨u, q⟩ := I.ownNe h
    rw [hp] at q; cases q
end
namespace SN
variable {K : PySem.W.Frag} [Tbs K]
def lst (a : SA K) : SN K where
  rd := fun E => tLst (a.rd E)
  wp := fun PE ρ P => a.wp PE ρ fun xs ρ1 => xs.length ≤ sizeLine ∧ P xs ρ1
  ok := by
    intro dk F0 H0 F σ H ρ E PE P Q I e h q
    refine a.ok I e h fun v H1 F1 x ρ1 g1 I1 r1 h1 => ?_
    refine ⟨by rw [r1.len]; exact h1.1, fun p hp => ?_⟩
    obtain ⟨I2, g2, e2, r2, a1, a2, a3, a4⟩ := I1.laid hp r1
    exact q _ _ _ _ _ _ (g1.trans g2) I2 e2 r2 a1 a2 a3 a4 h1.2
end SN
namespace SE
variable {K : PySem.W.Frag} [Tbs K]
/-- a new list as a value -/
def nl (n : SN K) : SE K where
  rd := n.rd
  wp := fun PE ρ P => n.wp PE ρ fun xs ρ1 => P (.lst xs) ρ1
  ok := by
    intro dk F0 H0 F σ H ρ E PE P Q I e h q
    refine n.ok I e h fun a vs H1 F1 xs ρ1 g1 I1 e1 r1 a1 a2 a3 a4 h1 => ?_
    obtain ⟨I2, g2⟩ := I1.intoF ⟨a1, a2⟩ e1 a3 a4
    exact q _ _ _ _ _ (g1.trans g2) I2 (.lst (.inr rfl) e1 (r1.mono g2)) h1
end SE
namespace SS
variable {K : PySem.W.Frag} [Tbs K]
/-- x = a new list that x changes -/
def own (i : Nat) (n : SN K) : SS K where
  rd := fun E => tAsg (n.rd E) (gName i)
  wp := fun PE PD ρ => n.wp PE ρ fun xs ρ1 => PD.nx (ρ1.set i (.own xs))
  ok := by
    intro dk F0 H0 F σ H ρ E PE D PD I e d h
    refine n.ok I e h fun a vs H1 F1 xs ρ1 g1 I1 e1 r1 a1 a2 a3 a4 h1 => ?_
    exact d.nx _ _ _ _ g1 (I1.setO (.own e1 r1) ⟨a1, a2⟩ fun j hj => (a4 j hj).elim) h1
end SS
end Tw
set_option Elab.async false
set_option linter.all false
set_option maxRecDepth 100000
set_option maxHeartbeats 4000000
/-! The plain layer: comprehensions, calls, defs, own lists. -/
namespace Tw
open PySem PySem.Spec PyProof.Rows L2
def wipeE (ρ : Env) : List Nat → Env
  | [] => ρ
  | v :: vs => (wipeE ρ vs).set v .no
theorem wipe_get (σ : L2.St) (j : Nat) : ∀ vs : List Nat, (wipe σ vs)[j]? = if j ∈ vs then (if j < σ.length then some none else none) else σ[j]?
  | [] => by simp [wipe]
  | v :: vs => by
    have ih := wipe_get σ j vs
    rw [wipe, getE_set, wipe_length]
    by_cases h : v = j
    · subst h; rw [if_pos rfl, if_pos (List.mem_cons_self ..)]
    · rw [if_neg h, ih]
      have : (j ∈ v :: vs) ↔ j ∈ vs := ⟨fun z => (List.mem_cons.mp z).resolve_left fun y => h y.symm, fun z => List.mem_cons_of_mem _ z⟩
      simp only [this]
theorem wipeE_len (ρ : Env) : ∀ vs : List Nat, (wipeE ρ vs).length = ρ.length
  | [] => rfl
  | v :: vs => by rw [wipeE, List.length_set, wipeE_len ρ vs]
theorem wipeE_get (ρ : Env) (j : Nat) : ∀ vs : List Nat, (wipeE ρ vs)[j]? = if j ∈ vs then (if j < ρ.length then some .no else none) else ρ[j]?
  | [] => by simp [wipeE]
  | v :: vs => by
    have ih := wipeE_get ρ j vs
    rw [wipeE, getE_set, wipeE_len]
    by_cases h : v = j
    · subst h; rw [if_pos rfl, if_pos (List.mem_cons_self ..)]
    · rw [if_neg h, ih]
      have : (j ∈ v :: vs) ↔ j ∈ vs := ⟨fun z => (List.mem_cons.mp z).resolve_left fun y => h y.symm, fun z => List.mem_cons_of_mem _ z⟩
      simp only [this]
theorem wipe_same {σ σ' : L2.St} {vs : List Nat} (hl : σ'.length = σ.length) (h : ∀ j, j ∉ vs → σ'[j]? = σ[j]?) : wipe σ' vs = wipe σ vs := by
  apply List.ext_getElem?
  intro j
  rw [wipe_get, wipe_get, hl]
  by_cases hj : j ∈ vs
  · rw [if_pos hj, if_pos hj]
  · rw [if_neg hj, if_neg hj, h j hj]
theorem wipe_wipe {σ : L2.St} {vs : List Nat} : wipe (wipe σ vs) vs = wipe σ vs := wipe_same (wipe_length _ _) fun j hj => by rw [wipe_get, if_neg hj]
section
variable {K : PySem.W.Frag} [Tbs K] {dk : Option Addr} {F0 F F1 F2 : Addr → Prop} {H0 H H1 H2 : Hp} {E : EK} {PE : PEK} {σ σ' : L2.St} {ρ : Env}
theorem PInv.wiped (I : PInv K dk F0 H0 F σ H ρ) : ∀ vs : List Nat, PInv K dk F0 H0 F (wipe σ vs) H (wipeE ρ vs)
  | [] => I
  | v :: vs => (I.wiped vs).setN
theorem PInv.unwiped {vs : List Nat} (I : PInv K dk F0 H0 F σ' H ρ) (hl : σ'.length = σ.length) (h : ∀ j, j ∉ vs → σ'[j]? = σ[j]?) (hn : ∀ j, j ∈ vs → ∀ s, ρ[j]? = some s → s = .no) : PInv K dk F0 H0 F σ H ρ := by
  have ho : ∀ i a, OwnAt σ ρ i a → OwnAt σ' ρ i a := by
    rintro i a ⟨s, hs, hw, e⟩
    by_cases hi : i ∈ vs
    · rw [hn i hi s hs] at hw; cases hw
    · exact ⟨s, hs, hw, by rw [h i hi]; exact e⟩
  refine ⟨I.st, by rw [← hl]; exact I.len, fun i s o hs hq => ?_, fun i j a x y => I.dis i j a (ho i a x) (ho j a y), fun i a x => I.fresh i a (ho i a x)⟩
  by_cases hi : i ∈ vs
  · rw [hn i hi s hs]; exact .no _
  · exact I.sl i s o hs (by rw [h i hi]; exact hq)
theorem wipeE_no {vs : List Nat} {j : Nat} (hj : j ∈ vs) {s : Sl} (h : (wipeE ρ vs)[j]? = some s) : s = .no := by
  rw [wipeE_get, if_pos hj] at h
  split at h
  · cases h; rfl
  · cases h
end
def wpLc (step : PV → Env → (Option PV → Env → Prop) → Prop) : List PV → List PV → Env → (List PV → Env → Prop) → Prop
  | [], acc, ρ, P => P acc ρ
  | x :: xs, acc, ρ, P => step x ρ fun o ρ' => match o with
    | some y => acc.length < sizeLine ∧ wpLc step xs (acc ++ [y]) ρ' P
    | none => wpLc step xs acc ρ' P
/-- a turn of a comprehension -/
def lcStep {K : PySem.W.Frag} [Tbs K] (g : SG K) (tt : ST K) (te : SE K) (PE : PEK) (x : PV) (ρ : Env) (k : Option PV → Env → Prop) : Prop :=
  g.wp x ρ fun ρ1 => tt.wp PE ρ1 fun b ρ2 => if b = true then te.wp PE ρ2 fun y ρ3 => k (some y) (wipeE ρ3 g.sl) else k none (wipeE ρ2 g.sl)
namespace SN
variable {K : PySem.W.Frag} [Tbs K]
def lc (wi : SI K) (g : SG K) (tt : ST K) (te : SE K) : SN K where
  rd := fun E => tLc (wi.rd E) g.rd (tt.rd E) (te.rd E) g.sl
  wp := fun PE ρ P => wi.wp PE ρ fun xs ρ1 => wpLc (lcStep g tt te PE) xs [] (wipeE ρ1 g.sl) P
  ok := by
    intro dk F0 H0 F σ H ρ E PE P Q I e h q
    rw [o_lc]
    refine wi.ok I e h fun J H1 F1 xs ρ1 g1 I1 wk h1 => ?_
    obtain ⟨G, Y, wk, wG, wY⟩ := wk
    refine lb_walk wk (fun D i H' => H1 D = none ∧ H0 D = none ∧ ¬ F0 D ∧ dk ≠ some D ∧ ∃ F' ρ' accv acc, Grow K F1 H1 F' H' ∧ PInv K dk F0 (upd H0 D (.lst accv)) F' (wipe σ g.sl) H' ρ' ∧ RepL K dk F' H' accv acc ∧ (∀ j, j ∈ g.sl → ∀ s, ρ'[j]? = some s → s = .no) ∧ wpLc (lcStep g tt te PE) (xs.drop i) acc ρ' P) ?_ ?_ ?_ ?_
    · intro D hD
      obtain ⟨I2, g2, e2, r2, a1, a2, a3, a4⟩ := I1.laid hD (RepL.nil)
      refine ⟨hD, a1, fun z => a2 (I1.st.f0 _ z), a3, F1, wipeE ρ1 g.sl, [], [], g2, ?_, .nil, fun j hj s hs => wipeE_no hj hs, h1⟩
      refine (I2.wiped g.sl).rebase a1 a3 e2 a2 fun i h => ?_
      obtain ⟨s, hs, hw, ee⟩ := h
      rw [wipe_get] at ee
      rw [wipeE_get] at hs
      by_cases hi : i ∈ g.sl
      · rw [if_pos hi] at hs
        split at hs
        · cases hs; cases hw
        · cases hs
      · rw [if_neg hi] at ee hs
        exact a4 i ⟨s, hs, hw, ee⟩
    · rintro D i H' _ ⟨_, _, _, _, F', ρ', _, _, g', _⟩
      exact wG F' H' g'
    · rintro D i v H' H'' hi ⟨hD, d0, df, dd, F', ρ', accv, acc, g', I', r', hn, h'⟩ hy
      obtain ⟨hh, x, hx, r⟩ := wY i F' H' v H'' hi g' hy
      obtain ⟨I2, g2⟩ := I'.turn hh
      have e2 : xs.drop i = x :: xs.drop (i + 1) := by
        rw [List.drop_eq_getElem_cons hi]
        congr 1
        rw [List.getElem?_eq_getElem hi] at hx
        exact Option.some.inj hx
      rw [e2] at h'
      have g12 := (g1.trans g').trans g2
      refine g.ok I2 r h' fun σ3 ρ3 hl3 hs3 I3 h3 => ?_
      have hw3 : wipe σ3 g.sl = wipe σ g.sl := (wipe_same hl3 hs3).trans wipe_wipe
      refine ⟨hw3, ?_⟩
      have eD := (e.grow g12).rebase (o := .lst accv) d0 dd
      refine tt.ok I3 eD h3 fun b H4 F4 ρ4 g4 I4 h4 => ?_
      cases b with
      | true =>
        refine te.ok I4 (eD.grow g4) h4 fun w H5 F5 y ρ5 g5 I5 r5 h5 => ?_
        have gA := (g2.trans g4).trans g5
        have hD5 : H5 D = some (.lst accv) := I5.st.base D _ upd_same dd
        have ra := r'.mono gA
        obtain ⟨I6, g6⟩ := I5.chgD (ys := accv ++ [w]) d0 df dd
        refine ⟨accv, hD5, by rw [ra.len]; exact h5.1, hD, d0, df, dd, F5, wipeE ρ5 g.sl, accv ++ [w], acc ++ [y], (g'.trans gA).trans g6, ?_, (ra.app (.one r5)).mono g6, fun j hj s hs => wipeE_no hj hs, h5.2⟩
        have := I6.wiped g.sl
        rw [hw3] at this
        exact this
      | false =>
        have gA := g2.trans g4
        have := I4.wiped g.sl
        rw [hw3] at this
        exact ⟨hD, d0, df, dd, F4, wipeE ρ4 g.sl, accv, acc, g'.trans gA, this, r'.mono gA, fun j hj s hs => wipeE_no hj hs, h4⟩
    · rintro D H' hD ⟨_, d0, df, dd, F', ρ', accv, acc, g', I', r', hn, h'⟩
      rw [List.drop_length] at h'
      have hD5 : H' D = some (.lst accv) := I'.st.base D _ upd_same dd
      obtain ⟨f1, f2⟩ := I'.offD d0 df
      have I2 := (I'.unbase d0 dd).unwiped (σ := σ) (vs := g.sl) (wipe_length _ _) (fun j hj => by rw [wipe_get, if_neg hj]) hn
      refine q D accv H' F' acc ρ' (g1.trans g') I2 hD5 r' d0 f1 dd (fun i h => ?_) h'
      obtain ⟨s, hs, hw, ee⟩ := h
      refine f2 i ⟨s, hs, hw, ?_⟩
      rw [wipe_get]
      by_cases hi : i ∈ g.sl
      · rw [hn i hi s hs] at hw; cases hw
      · rw [if_neg hi]; exact ee
end SN
/-! ### calls -/
abbrev PSp := List PV → (PErr → Prop) → (PV → Prop) → Prop
/-- the promise sp follows from the plain one -/
def SpOk (K : PySem.W.Frag) [Tbs K] (sp : Sp) (psp : PSp) : Prop := ∀ dk F H vs xs perr post Q E, St0 K dk F (hide H) F H → RepL K dk F H vs xs → psp xs perr post →
  (∀ v H' F' x, St0 K dk F (hide H) F' H' → Rep K dk F' H' v x → post x → Q v H') → (∀ C d fv fs F' H', St0 K dk F (hide H) F' H' → RepF K dk F' H' fv fs → ErrD (hide H) F' H' d fv → perr (C, fs) → E (.ref C) d H') → sp vs H Q E
def spOf (K : PySem.W.Frag) [Tbs K] (psp : PSp) : Sp := fun vs H Q E => ∃ dk F xs perr post, St0 K dk F (hide H) F H ∧ RepL K dk F H vs xs ∧ psp xs perr post ∧
  (∀ v H' F' x, St0 K dk F (hide H) F' H' → Rep K dk F' H' v x → post x → Q v H') ∧ (∀ C d fv fs F' H', St0 K dk F (hide H) F' H' → RepF K dk F' H' fv fs → ErrD (hide H) F' H' d fv → perr (C, fs) → E (.ref C) d H')
theorem spOf_ok (K : PySem.W.Frag) [Tbs K] (psp : PSp) : SpOk K (spOf K psp) psp := fun dk F H vs xs perr post Q E h r p q e => ⟨dk, F, xs, perr, post, h, r, p, q, e⟩
section
variable {K : PySem.W.Frag} [Tbs K] {dk : Option Addr} {F0 F F' : Addr → Prop} {H0 H H' : Hp} {σ : L2.St} {ρ : Env}
/-- behind a call -/
theorem PInv.call (I : PInv K dk F0 H0 F σ H ρ) (s : St0 K dk F (hide H) F' H') : PInv K dk F0 H0 F' σ H' ρ ∧ Grow K F H F' H' := by
  have g := s.grow.unhide I.st.tb.fnt
  have old : ∀ i a, OwnAt σ ρ i a → H' a = H a ∧ ¬ F' a := by
    intro i a h
    obtain ⟨u, q, qn⟩ := I.ownNt h
    have hd : dk ≠ some a := fun e => by
      obtain ⟨x, y, z, q0⟩ := I.st.deck0 a e
      rw [(I.fresh i a h).1] at q0; cases q0
    refine ⟨by rw [s.base a u (hide_of q qn) hd, q], fun hf => ?_⟩
    rcases s.fnew a hf with z | z
    · exact (I.fresh i a h).2 z
    · rw [hide_of q qn] at z; cases z
  refine ⟨⟨⟨fun b o h n => s.base b o (hide_of (I.st.base b o h n) fun ps e => I.st.h0 b ps (by rw [h, e])) n, fun b h => ?_, s.fall, fun b h => s.f0 b (I.st.f0 b h), s.fdk, s.deck, I.st.deck0, I.st.h0, s.tb⟩, I.len, fun i t o ht ho => (I.sl i t o ht ho).mono g fun a w e => (old i a ⟨t, ht, w, by rw [ho, e]⟩).1, I.dis, fun i a h => ⟨(I.fresh i a h).1, (old i a h).2⟩⟩, g⟩
  rcases s.fnew b h with z | z
  · exact I.st.fnew b z
  · exact .inr (I.st.freshH z).1
end
namespace SE
variable {K : PySem.W.Frag} [Tbs K]
/-- a call of a def that raises nothing -/
def call (sp : Sp) (psp : PSp) (hs : SpOk K sp psp) (a : SA K) : SE K where
  rd := fun E => tCall sp [] E0 (a.rd E)
  wp := fun PE ρ P => a.wp PE ρ fun xs ρ1 => psp xs (fun _ => False) fun x => P x ρ1
  ok := by
    intro dk F0 H0 F σ H ρ E PE P Q I e h q
    refine a.ok I e h fun vs H1 F1 xs ρ1 g1 I1 r1 h1 => ?_
    show sp (vs ++ []) H1 Q E0
    rw [List.append_nil]
    refine hs dk F1 H1 vs xs _ _ Q E0 I1.st.self r1 h1 (fun v H' F' x s r p => ?_) fun _ _ _ _ _ _ _ _ _ z => z.elim
    obtain ⟨I2, g2⟩ := I1.call s
    exact q v H' F' x ρ1 (g1.trans g2) I2 r p
/-- a call of a def that may raise -/
def callS (sp : Sp) (psp : PSp) (hs : SpOk K sp psp) (a : SA K) : SE K where
  rd := fun E => tCallS sp E (a.rd E)
  wp := fun PE ρ P => a.wp PE ρ fun xs ρ1 => psp xs (fun er => PE ρ1 er) fun x => P x ρ1
  ok := by
    intro dk F0 H0 F σ H ρ E PE P Q I e h q
    refine a.ok I e h fun vs H1 F1 xs ρ1 g1 I1 r1 h1 => ?_
    refine hs dk F1 H1 vs xs _ _ Q (E σ) I1.st.self r1 h1 (fun v H' F' x s r p => ?_) fun C d fv fs F' H' s r ed p => ?_
    · obtain ⟨I2, g2⟩ := I1.call s
      exact q v H' F' x ρ1 (g1.trans g2) I2 r p
    · obtain ⟨I2, g2⟩ := I1.call s
      exact e F' σ H' ρ1 C d fv fs (g1.trans g2) I2 r (ed.imp id fun ⟨a, h1, h2, h3, h4⟩ => ⟨a, h1, h2, (I1.st.freshH h3).1, h4⟩) p
end SE
/-! ### defs -/
def startE (n : Nat) (xs : List PV) : Env := xs.map .val ++ List.replicate (n - xs.length) .no
theorem PInv.start {K : PySem.W.Frag} [Tbs K] {dk : Option Addr} {F : Addr → Prop} {H : Hp} {vs : List V} {xs : List PV} {n : Nat} (s : St0 K dk F (hide H) F H) (r : RepL K dk F H vs xs) : PInv K dk F (hide H) F (startN n vs) H (startE n xs) := by
  have hl := r.len
  have no : ∀ i a, ¬ OwnAt (startN n vs) (startE n xs) i a := by
    rintro i a ⟨t, ht, hw, _⟩
    unfold startE at ht
    by_cases hi : i < xs.length
    · rw [List.getElem?_append_left (by simpa using hi), List.getElem?_map, Option.map_eq_some_iff] at ht
      obtain ⟨x, _, rfl⟩ := ht
      cases hw
    · rw [List.getElem?_append_right (by simpa using hi)] at ht
      have := List.mem_of_getElem? ht
      rw [List.mem_replicate] at this
      rw [this.2] at hw; cases hw
  refine ⟨s, by simp [startN, startE, hl], fun i t o ht ho => ?_, fun i j a h => (no i a h).elim, fun i a h => (no i a h).elim⟩
  unfold startE at ht
  unfold startN at ho
  by_cases hi : i < xs.length
  · rw [List.getElem?_append_left (by simpa using hi), List.getElem?_map, Option.map_eq_some_iff] at ht
    rw [List.getElem?_append_left (by simpa [hl] using hi), List.getElem?_map, Option.map_eq_some_iff] at ho
    obtain ⟨x, hx, rfl⟩ := ht
    obtain ⟨v, hv, rfl⟩ := ho
    obtain ⟨x', hx', rr⟩ := r.get hv
    rw [hx] at hx'; cases hx'
    exact .val rr
  · rw [List.getElem?_append_right (by simpa using hi)] at ht
    have := List.mem_of_getElem? ht
    rw [List.mem_replicate] at this
    rw [this.2]; exact .no _
/-- a def keeps its promise -/
theorem SS.run {K : PySem.W.Frag} [Tbs K] (X : SS K) {psp : PSp} {n : Nat} (h : ∀ xs perr post, psp xs perr post → X.wp (fun _ => perr) { nx := fun _ => post .non, rt := post } (startE n xs)) (vs : List V) (H : Hp) (Q : VK) (E : XK) (hs : spOf K psp vs H Q E) :
    X.rd (fun _ => E) { nx := fun _ H' => Q .non H', rt := Q } (startN n vs) H := by
  obtain ⟨dk, F, xs, perr, post, s, r, p, q, e⟩ := hs
  refine X.ok (PE := fun _ => perr) (PD := { nx := fun _ => post .non, rt := post }) (PInv.start s r) (fun F' σ' H' ρ' C d fv fs g I' rf ed pp => e C d fv fs F' H' I'.st rf ed pp) ⟨fun F' σ' H' ρ' g I' pp => q .non H' F' .non I'.st .non pp, fun F' H' v x s' r' pp => q v H' F' x s' r' pp, fun _ _ _ _ _ _ z => z.elim, fun _ _ _ _ _ _ z => z.elim⟩ (h xs perr post p)
/-- a def that raises nothing -/
theorem SS.run0 {K : PySem.W.Frag} [Tbs K] (X : SS K) {psp : PSp} {n : Nat} (h : ∀ xs perr post, psp xs perr post → X.wp (fun _ _ => False) { nx := fun _ => post .non, rt := post } (startE n xs)) (vs : List V) (H : Hp) (Q : VK) (E : XK) (hs : spOf K psp vs H Q E) :
    X.rd (fun _ => E0) { nx := fun _ H' => Q .non H', rt := Q } (startN n vs) H := by
  obtain ⟨dk, F, xs, perr, post, s, r, p, q, e⟩ := hs
  refine X.ok (PE := fun _ _ => False) (PD := { nx := fun _ => post .non, rt := post }) (PInv.start s r) (fun F' σ' H' ρ' C d fv fs g I' rf ed pp => pp.elim) ⟨fun F' σ' H' ρ' g I' pp => q .non H' F' .non I'.st .non pp, fun F' H' v x s' r' pp => q v H' F' x s' r' pp, fun _ _ _ _ _ _ z => z.elim, fun _ _ _ _ _ _ z => z.elim⟩ (h xs perr post p)
theorem spOf_len {K : PySem.W.Frag} [Tbs K] {psp : PSp} {m : Nat} (h : ∀ xs perr post, psp xs perr post → xs.length = m) (vs : List V) (H : Hp) (Q : VK) (E : XK) (hs : spOf K psp vs H Q E) : vs.length = m := by
  obtain ⟨dk, F, xs, perr, post, s, r, p, _⟩ := hs
  rw [r.len]; exact h xs perr post p
/-! ### own lists -/
section
variable {K : PySem.W.Frag} [Tbs K] {dk : Option Addr} {F0 F F' : Addr → Prop} {H0 H H' : Hp} {σ : L2.St} {ρ : Env} {i : Nat}
theorem PInv.ownL (I : PInv K dk F0 H0 F σ H ρ) {xs : List PV} (h : ρ[i]? = some (.own xs)) : ∃ a vs, σ[i]? = some (some (.ref a)) ∧ H a = some (.lst vs) ∧ RepL K dk F H vs xs ∧ OwnAt σ ρ i a := by
  obtain ⟨o, ho, s⟩ := I.slot h
  cases s with
  | own e r => exact ⟨_, _, ho, e, r, _, h, trivial, ho⟩
theorem PInv.chgL (I : PInv K dk F0 H0 F σ H ρ) {a : Addr} {vs ws : List V} {ys : List PV} (o : OwnAt σ ρ i a) (e : H a = some (.lst vs)) (r : RepL K dk F H ws ys) :
    PInv K dk F0 H0 F σ (upd H a (.lst ws)) (ρ.set i (.own ys)) ∧ Grow K F H F (upd H a (.lst ws)) := by
  have k1 : ∀ xs, H a ≠ some (.tup xs) := fun xs z => by rw [e] at z; cases z
  have k2 : ∀ y xs, H a ≠ some (.frz y xs) := fun y xs z => by rw [e] at z; cases z
  obtain ⟨g, st⟩ := I.chg o (u := .lst ws) k1 k2
  exact ⟨I.chgO o k1 k2 (.own upd_same (r.mono g)), g⟩
end
namespace SS
variable {K : PySem.W.Frag} [Tbs K]
/-- x.append(e), x an own list -/
def append (i : Nat) (a : SE K) : SS K where
  rd := fun E => tDrop (tBM K "list" rAppend (tVar i) (tCons (a.rd E) tNil))
  wp := fun PE PD ρ => ∃ xs0, ρ[i]? = some (.own xs0) ∧ a.wp PE ρ fun y ρ1 => ∃ xs, ρ1[i]? = some (.own xs) ∧ xs.length < sizeLine ∧ PD.nx (ρ1.set i (.own (xs ++ [y])))
  ok := by
    intro dk F0 H0 F σ H ρ E PE D PD I e d h
    obtain ⟨xs0, h0, h⟩ := h
    obtain ⟨l, vs, hσ, hl, _, _⟩ := I.ownL h0
    refine ⟨_, hσ, .inl ⟨rfl, vs, SqL.of hl⟩, ?_⟩
    refine a.ok I e h fun v H1 F1 y ρ1 g1 I1 r1 h1 => ?_
    obtain ⟨xs, h2, h3, h4⟩ := h1
    obtain ⟨l', vs', hσ', hl', rl, o⟩ := I1.ownL h2
    rw [hσ] at hσ'; cases hσ'
    obtain ⟨I2, g2⟩ := I1.chgL o hl' (rl.app (.one r1))
    exact ⟨l, vs', v, rfl, rfl, hl', by rw [rl.len]; exact h3, d.nx _ _ _ _ (g1.trans g2) I2 h4⟩
end SS
namespace SE
variable {K : PySem.W.Frag} [Tbs K]
/-- x.pop(), x an own list -/
def pop (i : Nat) : SE K where
  rd := fun _ => tBM0 K "list" rPop (tVar i)
  wp := fun _ ρ P => ∃ xs y, ρ[i]? = some (.own (xs ++ [y])) ∧ P y (ρ.set i (.own xs))
  ok := by
    intro dk F0 H0 F σ H ρ E PE P Q I e h q
    obtain ⟨xs, y, h0, h⟩ := h
    obtain ⟨l, vs, hσ, hl, rl, o⟩ := I.ownL h0
    have hlen : vs.length = xs.length + 1 := by rw [rl.len, List.length_append]; rfl
    obtain ⟨v, hv, rv⟩ := rl.get2 (i := xs.length) (x := y) (by rw [List.getElem?_append_right (Nat.le_refl _)]; simp)
    have rd := rl.dropLast
    rw [List.dropLast_concat] at rd
    obtain ⟨I2, g2⟩ := I.chgL o hl rd
    refine ⟨_, hσ, .inl ⟨rfl, vs, SqL.of hl⟩, l, vs, v, rfl, rfl, hl, by rw [hlen]; exact hv, ?_⟩
    exact q _ _ _ _ _ g2 I2 (rv.mono g2) h
end SE
end Tw
set_option Elab.async false
set_option linter.all false
set_option maxRecDepth 100000
set_option maxHeartbeats 4000000
/-! The plain layer: operations. -/
namespace Tw
open PySem PySem.Spec PyProof.Rows L2
/-- a scalar -/
def PV.sv : PV → Option V
  | .non => some .non
  | .bl b => some (.bl b)
  | .int i => some (.int i)
  | .str x => some (.str x)
  | _ => none
def cutP {α : Type} (xs : List α) (lo hi : Option Int) : List α := (xs.drop (HT.sIx xs.length 0 lo)).take (HT.sIx xs.length xs.length hi - HT.sIx xs.length 0 lo)
section
variable {K : PySem.W.Frag} [Tbs K] {dk : Option Addr} {F0 F : Addr → Prop} {H0 H : Hp} {σ : L2.St} {ρ : Env}
theorem Rep.sv {v w : V} {x : PV} (r : Rep K dk F H v x) (e : x.sv = some w) : v = w := by
  cases r <;> cases e <;> rfl
theorem RepL.cut {vs : List V} {xs : List PV} (r : RepL K dk F H vs xs) (lo hi : Option Int) : RepL K dk F H (cutV vs lo hi) (cutP xs lo hi) := by
  unfold cutV cutP
  rw [r.len]
  exact (r.drop _).take _
theorem RepL.atI {vs : List V} {xs : List PV} {i : Int} {x : PV} (r : RepL K dk F H vs xs) (e : L2.atI xs i = some x) : ∃ v, L2.atI vs i = some v ∧ Rep K dk F H v x := by
  unfold L2.atI at e ⊢
  rw [r.len]
  cases h : ixN xs.length i with
  | none => rw [h] at e; cases e
  | some j => rw [h] at e; exact r.get2 e
theorem RepL.strs {vs : List V} : ∀ {zs : List Str}, RepL K dk F H vs (zs.map .str) → vs = zs.map V.str := by
  induction vs with
  | nil => intro zs r; cases zs with
    | nil => rfl
    | cons z zs => cases r
  | cons v vs ih => intro zs r; cases zs with
    | nil => cases r
    | cons z zs => cases r with | cons a b => cases a; rw [ih b]; rfl
theorem RepL.ofStrs : ∀ (zs : List Str), RepL K dk F H (zs.map V.str) (zs.map .str)
  | [] => .nil
  | z :: zs => .cons (.str z) (RepL.ofStrs zs)
theorem RepL.bools {vs : List V} : ∀ {zs : List Bool}, RepL K dk F H vs (zs.map .bl) → vs = zs.map V.bl := by
  induction vs with
  | nil => intro zs r; cases zs with
    | nil => rfl
    | cons z zs => cases r
  | cons v vs ih => intro zs r; cases zs with
    | nil => cases r
    | cons z zs => cases r with | cons a b => cases a; rw [ih b]; rfl
theorem RepL.ints {vs : List V} : ∀ {zs : List Int}, RepL K dk F H vs (zs.map .int) → vs = zs.map V.int := by
  induction vs with
  | nil => intro zs r; cases zs with
    | nil => rfl
    | cons z zs => cases r
  | cons v vs ih => intro zs r; cases zs with
    | nil => cases r
    | cons z zs => cases r with | cons a b => cases a; rw [ih b]; rfl
end
namespace SO
variable {K : PySem.W.Frag} [Tbs K]
/-- + - of ints -/
def i0 (f : Int → Int → Int) : SO K where
  rd := rI0 fun i j => .int (f i j)
  wp := fun x y P => ∃ i j, x = .int i ∧ y = .int j ∧ P (.int (f i j))
  ok := by
    rintro dk F0 H0 F σ H ρ v w x y P Q I r1 r2 ⟨i, j, rfl, rfl, h⟩ q
    cases r1; cases r2
    exact ⟨i, j, rfl, rfl, q _ _ _ _ Grow.refl I (.int _) h⟩
/-- < and the like -/
def c0 (f : Int → Int → Bool) : SO K where
  rd := rI0 fun i j => .bl (f i j)
  wp := fun x y P => ∃ i j, x = .int i ∧ y = .int j ∧ P (.bl (f i j))
  ok := by
    rintro dk F0 H0 F σ H ρ v w x y P Q I r1 r2 ⟨i, j, rfl, rfl, h⟩ q
    cases r1; cases r2
    exact ⟨i, j, rfl, rfl, q _ _ _ _ Grow.refl I (.bl _) h⟩
/-- * // % ** -/
def iC (C : Int → Int → Prop) (f : Int → Int → Int) : SO K where
  rd := rI C fun i j => .int (f i j)
  wp := fun x y P => ∃ i j, x = .int i ∧ y = .int j ∧ C i j ∧ P (.int (f i j))
  ok := by
    rintro dk F0 H0 F σ H ρ v w x y P Q I r1 r2 ⟨i, j, rfl, rfl, c, h⟩ q
    cases r1; cases r2
    exact ⟨i, j, rfl, rfl, c, q _ _ _ _ Grow.refl I (.int _) h⟩
def addS : SO K where
  rd := rAddStr
  wp := fun x y P => ∃ i j, x = .str i ∧ y = .str j ∧ i.length + j.length ≤ sizeLine ∧ P (.str (i ++ j))
  ok := by
    rintro dk F0 H0 F σ H ρ v w x y P Q I r1 r2 ⟨i, j, rfl, rfl, c, h⟩ q
    cases r1; cases r2
    exact ⟨i, j, rfl, rfl, c, q _ _ _ _ Grow.refl I (.str _) h⟩
def repS : SO K where
  rd := rRepStr
  wp := fun x y P => ∃ i j, x = .str i ∧ y = .int j ∧ MulOk i j ∧ P (.str (Txt.mul i j))
  ok := by
    rintro dk F0 H0 F σ H ρ v w x y P Q I r1 r2 ⟨i, j, rfl, rfl, c, h⟩ q
    cases r1; cases r2
    exact ⟨i, j, rfl, rfl, c, q _ _ _ _ Grow.refl I (.str _) h⟩
/-- t + u -/
def catT : SO K where
  rd := rCatA K
  wp := fun x y P => ∃ xs ys, x = .tup xs ∧ y = .tup ys ∧ xs.length + ys.length ≤ sizeLine ∧ P (.tup (xs ++ ys))
  ok := by
    rintro dk F0 H0 F σ H ρ v w x y P Q I r1 r2 ⟨xs, ys, rfl, rfl, c, h⟩ q
    cases r1 with
    | tup s1 l1 =>
      rename_i a vs
      cases r2 with
      | tup s2 l2 =>
        rename_i b ws
        refine ⟨a, b, vs, ws, rfl, rfl, s1, s2, by rw [l1.len, l2.len]; exact c, fun e => ?_, fun _ e => ?_, fun _ _ p hp => ?_⟩
        · subst e
          cases l1
          exact q _ _ _ _ Grow.refl I (.tup s2 l2) (by simpa using h)
        · subst e
          cases l2
          exact q _ _ _ _ Grow.refl I (.tup s1 l1) (by simpa using h)
        · exact q _ _ _ _ (Grow.new hp) (I.new hp) (.tup (SqT.of upd_same) ((l1.app l2).mono (Grow.new hp))) h
/-- x[i] of a text -/
def ixS : SO K where
  rd := rIxS
  wp := fun x y P => ∃ z i c, x = .str z ∧ y = .int i ∧ z.length ≤ sizeLine ∧ L2.atI z.cps.toList i = some c ∧ P (.str ⟨#[c]⟩)
  ok := by
    rintro dk F0 H0 F σ H ρ v w x y P Q I r1 r2 ⟨z, i, c, rfl, rfl, a, b, h⟩ q
    cases r1; cases r2
    exact ⟨z, i, c, rfl, rfl, a, b, q _ _ _ _ Grow.refl I (.str _) h⟩
def ixT : SO K where
  rd := rIxT K
  wp := fun x y P => ∃ xs i u, x = .tup xs ∧ y = .int i ∧ L2.atI xs i = some u ∧ P u
  ok := by
    rintro dk F0 H0 F σ H ρ v w x y P Q I r1 r2 ⟨xs, i, u, rfl, rfl, a, h⟩ q
    cases r1 with
    | tup s1 l1 =>
      cases r2
      obtain ⟨v, hv, rv⟩ := l1.atI a
      exact ⟨_, _, i, v, rfl, rfl, s1, hv, q _ _ _ _ Grow.refl I rv h⟩
def ixL : SO K where
  rd := rIxL K
  wp := fun x y P => ∃ xs i u, x = .lst xs ∧ y = .int i ∧ L2.atI xs i = some u ∧ P u
  ok := by
    rintro dk F0 H0 F σ H ρ v w x y P Q I r1 r2 ⟨xs, i, u, rfl, rfl, a, h⟩ q
    cases r1 with
    | lst f s1 l1 =>
      cases r2
      obtain ⟨v, hv, rv⟩ := l1.atI a
      exact ⟨_, _, i, v, rfl, rfl, SqL.of s1, hv, q _ _ _ _ Grow.refl I rv h⟩
/-- == of scalars -/
def eq : SO K where
  rd := rEq
  wp := fun x y P => ∃ v w, x.sv = some v ∧ y.sv = some w ∧ scal v w = true ∧ P (.bl (decide (v = w)))
  ok := by
    rintro dk F0 H0 F σ H ρ v w x y P Q I r1 r2 ⟨v', w', e1, e2, s, h⟩ q
    rw [r1.sv e1, r2.sv e2]
    exact ⟨s, q _ _ _ _ Grow.refl I (.bl _) h⟩
def ne : SO K where
  rd := rNe
  wp := fun x y P => ∃ v w, x.sv = some v ∧ y.sv = some w ∧ scal v w = true ∧ P (.bl (!decide (v = w)))
  ok := by
    rintro dk F0 H0 F σ H ρ v w x y P Q I r1 r2 ⟨v', w', e1, e2, s, h⟩ q
    rw [r1.sv e1, r2.sv e2]
    exact ⟨s, q _ _ _ _ Grow.refl I (.bl _) h⟩
end SO
/-! ### plain data -/
mutual
def PV.pd : PV → PyData
  | .non => .none
  | .bl b => .bool b
  | .int i => .int i
  | .str x => .str x
  | .tup xs => .tuple (PV.pdL xs)
  | .lst xs => .list (PV.pdL xs)
  | .dic _ => .none
  | .deck => .none
  | .frt xs => .tuple (PV.pdL xs)
def PV.pdL : List PV → List PyData
  | [] => []
  | x :: xs => PV.pd x :: PV.pdL xs
end
mutual
def PV.plain : PV → Bool
  | .tup xs => PV.plainL xs
  | .lst xs => PV.plainL xs
  | .dic _ => false
  | .deck => false
  | .frt xs => PV.plainL xs
  | _ => true
def PV.plainL : List PV → Bool
  | [] => true
  | x :: xs => PV.plain x && PV.plainL xs
end
section
variable {K : PySem.W.Frag} [Tbs K] {dk : Option Addr} {F : Addr → Prop} {H : Hp}
mutual
theorem Rep.dp : ∀ {v : V} {x : PV}, Rep K dk F H v x → x.plain = true → Dp K H v x.pd
  | _, _, .non, _ => .non
  | _, _, .bl b, _ => .bl b
  | _, _, .int i, _ => .int i
  | _, _, .str x, _ => .str x
  | _, _, .tup s r, h => .tup s (RepL.dp r h)
  | _, _, .lst f e r, h => .lst (SqL.of e) (RepL.dp r h)
  | _, _, .dic f e r, h => by cases h
  | _, _, .deck e, h => by cases h
  | _, _, .frt s t r, h => .tup s (RepL.dp r h)
theorem RepL.dp : ∀ {vs : List V} {xs : List PV}, RepL K dk F H vs xs → PV.plainL xs = true → DpAll K H vs (PV.pdL xs)
  | _, _, .nil, _ => .nil
  | _, _, .cons r t, h => by
    have h' := Bool.and_eq_true_iff.mp h
    exact .cons (Rep.dp r h'.1) (RepL.dp t h'.2)
end
end
namespace SO
variable {K : PySem.W.Frag} [Tbs K]
/-- a text in a tuple or list of texts -/
def inS (neg : Bool) : SO K where
  rd := rIn K neg
  wp := fun x y P => ∃ (n : Str) (zs : List Str), x = .str n ∧ (y = .tup (zs.map .str) ∨ y = .lst (zs.map .str)) ∧ P (.bl (neg != decide (n ∈ zs)))
  ok := by
    rintro dk F0 H0 F σ H ρ v w x y P Q I r1 r2 ⟨n, zs, rfl, hy, h⟩ q
    cases r1
    have e : (if neg = true then !inV (.str n) (zs.map V.str) else inV (.str n) (zs.map V.str)) = (neg != decide (n ∈ zs)) := by
      rw [inV_str]; cases neg <;> simp
    rcases hy with rfl | rfl
    · cases r2 with
      | tup s l =>
        have := l.strs; subst this
        exact ⟨_, _, rfl, .inr s, rfl, flat_strs zs, by rw [e]; exact q _ _ _ _ Grow.refl I (.bl _) h⟩
    · cases r2 with
      | lst f s l =>
        have := l.strs; subst this
        exact ⟨_, _, rfl, .inl (SqL.of s), rfl, flat_strs zs, by rw [e]; exact q _ _ _ _ Grow.refl I (.bl _) h⟩
end SO
/-! ### slices -/
/-- a bound of a slice -/
structure SP_ (K : PySem.W.Frag) [Tbs K] where
  rd : EK → TO
  wp : PEK → Env → (Option Int → Env → Prop) → Prop
  ok : ∀ {dk F0 H0 F σ H ρ E PE P Q}, PInv K dk F0 H0 F σ H ρ → ErrS K dk F0 H0 F H E PE → wp PE ρ P →
    (∀ b H' F' ρ', Grow K F H F' H' → PInv K dk F0 H0 F' σ H' ρ' → P b ρ' → Q b H') → rd E σ H Q
namespace SP_
variable {K : PySem.W.Frag} [Tbs K]
def no : SP_ K where
  rd := fun _ => tNoPart
  wp := fun _ ρ P => P none ρ
  ok := fun I _ h q => q _ _ _ _ Grow.refl I h
def at_ (a : SE K) : SP_ K where
  rd := fun E => tPart (a.rd E)
  wp := fun PE ρ P => a.wp PE ρ fun x ρ1 => ∃ i, x = .int i ∧ P (some i) ρ1
  ok := by
    intro dk F0 H0 F σ H ρ E PE P Q I e h q
    refine a.ok I e h fun v H1 F1 x ρ1 g1 I1 r1 h1 => ?_
    obtain ⟨i, rfl, h1⟩ := h1
    cases r1
    exact ⟨i, rfl, q _ _ _ _ g1 I1 h1⟩
end SP_
namespace SE
variable {K : PySem.W.Frag} [Tbs K]
def slS (a : SE K) (lo hi : SP_ K) : SE K where
  rd := fun E => L2.tSl rSlS (a.rd E) (lo.rd E) (hi.rd E)
  wp := fun PE ρ P => a.wp PE ρ fun x ρ1 => lo.wp PE ρ1 fun l ρ2 => hi.wp PE ρ2 fun h ρ3 => ∃ z, x = .str z ∧ z.length ≤ sizeLine ∧ P (.str (cutS z l h)) ρ3
  ok := by
    intro dk F0 H0 F σ H ρ E PE P Q I e h q
    refine a.ok I e h fun v H1 F1 x ρ1 g1 I1 r1 h1 => ?_
    refine lo.ok I1 (e.grow g1) h1 fun l H2 F2 ρ2 g2 I2 h2 => ?_
    refine hi.ok I2 (e.grow (g1.trans g2)) h2 fun u H3 F3 ρ3 g3 I3 h3 => ?_
    obtain ⟨z, rfl, hz, h3⟩ := h3
    cases r1
    exact ⟨z, rfl, hz, q _ _ _ _ _ ((g1.trans g2).trans g3) I3 (.str _) h3⟩
def slT (a : SE K) (lo hi : SP_ K) : SE K where
  rd := fun E => L2.tSl (rSlA K) (a.rd E) (lo.rd E) (hi.rd E)
  wp := fun PE ρ P => a.wp PE ρ fun x ρ1 => lo.wp PE ρ1 fun l ρ2 => hi.wp PE ρ2 fun h ρ3 => ∃ xs, x = .tup xs ∧ P (.tup (cutP xs l h)) ρ3
  ok := by
    intro dk F0 H0 F σ H ρ E PE P Q I e h q
    refine a.ok I e h fun v H1 F1 x ρ1 g1 I1 r1 h1 => ?_
    refine lo.ok I1 (e.grow g1) h1 fun l H2 F2 ρ2 g2 I2 h2 => ?_
    refine hi.ok I2 (e.grow (g1.trans g2)) h2 fun u H3 F3 ρ3 g3 I3 h3 => ?_
    obtain ⟨xs, rfl, h3⟩ := h3
    have r3 := r1.mono (g2.trans g3)
    have g := (g1.trans g2).trans g3
    cases r3 with
    | tup s r =>
      rename_i p vs
      refine ⟨p, vs, rfl, s, fun c => ?_, fun c p hp => ?_⟩
      · refine q _ _ _ _ _ g I3 (.tup s ?_) h3
        have : cutP xs l u = xs := by
          unfold cutP
          rw [← r.len, c.1, c.2, List.drop_zero, r.len, Nat.sub_zero, List.take_length]
        rw [this]; exact r
      · exact q _ _ _ _ _ (g.trans (Grow.new hp)) (I3.new hp) (.tup (SqT.of upd_same) ((r.cut l u).mono (Grow.new hp))) h3
end SE
namespace SN
variable {K : PySem.W.Frag} [Tbs K]
def slL (a : SE K) (lo hi : SP_ K) : SN K where
  rd := fun E => L2.tSl (rSlL K) (a.rd E) (lo.rd E) (hi.rd E)
  wp := fun PE ρ P => a.wp PE ρ fun x ρ1 => lo.wp PE ρ1 fun l ρ2 => hi.wp PE ρ2 fun h ρ3 => ∃ xs, x = .lst xs ∧ P (cutP xs l h) ρ3
  ok := by
    intro dk F0 H0 F σ H ρ E PE P Q I e h q
    refine a.ok I e h fun v H1 F1 x ρ1 g1 I1 r1 h1 => ?_
    refine lo.ok I1 (e.grow g1) h1 fun l H2 F2 ρ2 g2 I2 h2 => ?_
    refine hi.ok I2 (e.grow (g1.trans g2)) h2 fun u H3 F3 ρ3 g3 I3 h3 => ?_
    obtain ⟨xs, rfl, h3⟩ := h3
    have r3 := r1.mono (g2.trans g3)
    have g := (g1.trans g2).trans g3
    cases r3 with
    | lst f s r =>
      refine ⟨_, _, rfl, SqL.of s, fun p hp => ?_⟩
      obtain ⟨I4, g4, e4, r4, a1, a2, a3, a4⟩ := I3.laid hp (r.cut l u)
      exact q _ _ _ _ _ _ (g.trans g4) I4 e4 r4 a1 a2 a3 a4 h3
/-- list(x) -/
def listOf (a : SE K) : SN K where
  rd := fun E => tCB (rListOf K) (tCons (a.rd E) tNil)
  wp := fun PE ρ P => a.wp PE ρ fun x ρ1 => ∃ xs, (x = .lst xs ∨ x = .tup xs) ∧ P xs ρ1
  ok := by
    intro dk F0 H0 F σ H ρ E PE P Q I e h q
    refine a.ok I e h fun v H1 F1 x ρ1 g1 I1 r1 h1 => ?_
    obtain ⟨xs, hx, h1⟩ := h1
    rcases hx with rfl | rfl
    · cases r1 with
      | lst f s r =>
        refine ⟨_, _, rfl, .inl (SqL.of s), fun p hp => ?_⟩
        obtain ⟨I4, g4, e4, r4, a1, a2, a3, a4⟩ := I1.laid hp r
        exact q _ _ _ _ _ _ (g1.trans g4) I4 e4 r4 a1 a2 a3 a4 h1
    · cases r1 with
      | tup s r =>
        refine ⟨_, _, rfl, .inr s, fun p hp => ?_⟩
        obtain ⟨I4, g4, e4, r4, a1, a2, a3, a4⟩ := I1.laid hp r
        exact q _ _ _ _ _ _ (g1.trans g4) I4 e4 r4 a1 a2 a3 a4 h1
/-- xs + ys of lists -/
def cat (a b : SE K) : SN K where
  rd := fun E => tOp rCat (a.rd E) (b.rd E)
  wp := fun PE ρ P => a.wp PE ρ fun x ρ1 => b.wp PE ρ1 fun y ρ2 => ∃ xs ys, x = .lst xs ∧ y = .lst ys ∧ xs.length + ys.length ≤ sizeLine ∧ P (xs ++ ys) ρ2
  ok := by
    intro dk F0 H0 F σ H ρ E PE P Q I e h q
    refine a.ok I e h fun v H1 F1 x ρ1 g1 I1 r1 h1 => ?_
    refine b.ok I1 (e.grow g1) h1 fun w H2 F2 y ρ2 g2 I2 r2 h2 => ?_
    obtain ⟨xs, ys, rfl, rfl, hz, h2⟩ := h2
    have r1' := r1.mono g2
    cases r1' with
    | lst f1 s1 l1 =>
      cases r2 with
      | lst f2 s2 l2 =>
        refine ⟨_, _, _, _, rfl, rfl, s1, s2, by rw [l1.len, l2.len]; exact hz, fun p hp => ?_⟩
        obtain ⟨I4, g4, e4, r4, a1, a2, a3, a4⟩ := I2.laid hp (l1.app l2)
        exact q _ _ _ _ _ _ ((g1.trans g2).trans g4) I4 e4 r4 a1 a2 a3 a4 h2
end SN
/-! ### built-in functions -/
namespace SB
variable {K : PySem.W.Frag} [Tbs K]
def lenS : SB K where
  rd := rLenStr
  wp := fun xs P => ∃ z, xs = [.str z] ∧ z.length ≤ sizeLine ∧ P (.int z.length)
  ok := by
    rintro dk F0 H0 F σ H ρ vs xs P Q I r ⟨z, rfl, hz, h⟩ q
    cases r with
    | cons a b => cases a; cases b; exact ⟨z, rfl, hz, q _ _ _ _ Grow.refl I (.int _) h⟩
def lenQ : SB K where
  rd := rLenSeq K
  wp := fun xs P => ∃ ys, (xs = [.lst ys] ∨ xs = [.tup ys]) ∧ P (.int ys.length)
  ok := by
    rintro dk F0 H0 F σ H ρ vs xs P Q I r ⟨ys, hx, h⟩ q
    rcases hx with rfl | rfl
    · cases r with
      | cons a b =>
        cases b
        cases a with
        | lst f s l => exact ⟨_, _, rfl, .inl (SqL.of s), by rw [l.len]; exact q _ _ _ _ Grow.refl I (.int _) h⟩
    · cases r with
      | cons a b =>
        cases b
        cases a with
        | tup s l => exact ⟨_, _, rfl, .inr s, by rw [l.len]; exact q _ _ _ _ Grow.refl I (.int _) h⟩
def abs : SB K where
  rd := rAbs
  wp := fun xs P => ∃ i, xs = [.int i] ∧ P (.int (if i < 0 then -i else i))
  ok := by
    rintro dk F0 H0 F σ H ρ vs xs P Q I r ⟨z, rfl, h⟩ q
    cases r with
    | cons a b => cases a; cases b; exact ⟨z, rfl, q _ _ _ _ Grow.refl I (.int _) h⟩
def int1 : SB K where
  rd := rInt1
  wp := fun xs P => (∃ i, xs = [.int i] ∧ P (.int i)) ∨ ∃ k, xs = [.bl k] ∧ P (.int (if k then 1 else 0))
  ok := by
    rintro dk F0 H0 F σ H ρ vs xs P Q I r h q
    rcases h with ⟨i, rfl, h⟩ | ⟨k, rfl, h⟩
    · cases r with
      | cons a b => cases a; cases b; exact .inl ⟨i, rfl, q _ _ _ _ Grow.refl I (.int _) h⟩
    · cases r with
      | cons a b => cases a; cases b; exact .inr ⟨k, rfl, q _ _ _ _ Grow.refl I (.int _) h⟩
def tupleOf : SB K where
  rd := rTupleOf K
  wp := fun xs P => ∃ ys, (xs = [.lst ys] ∨ xs = [.tup ys]) ∧ P (.tup ys)
  ok := by
    rintro dk F0 H0 F σ H ρ vs xs P Q I r ⟨ys, hx, h⟩ q
    rcases hx with rfl | rfl
    · cases r with
      | cons a b =>
        cases b
        cases a with
        | lst f s l => exact ⟨_, _, rfl, .inl ⟨SqL.of s, fun p hp => q _ _ _ _ (Grow.new hp) (I.new hp) (.tup (SqT.of upd_same) (l.mono (Grow.new hp))) h⟩⟩
    · cases r with
      | cons a b =>
        cases b
        cases a with
        | tup s l => exact ⟨_, _, rfl, .inr ⟨s, q _ _ _ _ Grow.refl I (.tup s l) h⟩⟩
def max2 : SB K where
  rd := rMax2
  wp := fun xs P => ∃ i j, xs = [.int i, .int j] ∧ P (.int (if j > i then j else i))
  ok := by
    rintro dk F0 H0 F σ H ρ vs xs P Q I r ⟨i, j, rfl, h⟩ q
    cases r with
    | cons a b => cases b with
      | cons c d => cases a; cases c; cases d; exact ⟨i, j, rfl, q _ _ _ _ Grow.refl I (.int _) h⟩
def min2 : SB K where
  rd := rMin2
  wp := fun xs P => ∃ i j, xs = [.int i, .int j] ∧ P (.int (if j < i then j else i))
  ok := by
    rintro dk F0 H0 F σ H ρ vs xs P Q I r ⟨i, j, rfl, h⟩ q
    cases r with
    | cons a b => cases b with
      | cons c d => cases a; cases c; cases d; exact ⟨i, j, rfl, q _ _ _ _ Grow.refl I (.int _) h⟩
def all_ : SB K where
  rd := rAll K
  wp := fun xs P => ∃ bs : List Bool, xs = [.lst (bs.map .bl)] ∧ P (.bl (bs.all id))
  ok := by
    rintro dk F0 H0 F σ H ρ vs xs P Q I r ⟨bs, rfl, h⟩ q
    cases r with
    | cons a b =>
      cases b
      cases a with
      | lst f s l => exact ⟨_, bs, rfl, by rw [← l.bools]; exact SqL.of s, q _ _ _ _ Grow.refl I (.bl _) h⟩
end SB
/-- the name of a value's type -/
def PV.tyN : PV → Option String
  | .non => some "NoneType"
  | .bl _ => some "bool"
  | .int _ => some "int"
  | .str _ => some "str"
  | .tup _ => some "tuple"
  | .lst _ => some "list"
  | .dic _ => some "dict"
  | .deck => none
  | .frt _ => none
theorem Rep.tyX {K : PySem.W.Frag} [Tbs K] {dk : Option Addr} {F : Addr → Prop} {H : Hp} {v : V} {x : PV} {t : String} (r : Rep K dk F H v x) (e : x.tyN = some t) : TyX K H v (.type t) := by
  cases r with
  | non => cases e; exact .base .non
  | bl b => cases e; exact .base (.bl b)
  | int i => cases e; exact .base (.int i)
  | str z => cases e; exact .base (.str z)
  | tup s l =>
    cases e
    rcases s with s | s
    · rcases s with s | ⟨o, s⟩
      · exact .base (.tup s)
      · exact .fTuple s
    · obtain ⟨o, its, n, e, c, _⟩ := s
      exact .kTuple e c
  | lst f s l => cases e; exact .base (.lst s)
  | dic f s l => cases e; exact .base (.dK s)
  | deck _ => cases e
  | frt _ _ _ => cases e
namespace SE
variable {K : PySem.W.Frag} [Tbs K]
def isi (T : String) (a : SE K) : SE K where
  rd := fun E => tIsi K T (a.rd E)
  wp := fun PE ρ P => a.wp PE ρ fun x ρ1 => ∃ t0 b, x.tyN = some t0 ∧ kitB t0 T = some b ∧ P (.bl b) ρ1
  ok := by
    intro dk F0 H0 F σ H ρ E PE P Q I e h q
    refine a.ok I e h fun v H1 F1 x ρ1 g1 I1 r1 h1 => ?_
    obtain ⟨t0, b, ht, hk, h1⟩ := h1
    exact ⟨v, t0, b, rfl, r1.tyX ht, hk, q _ _ _ _ _ g1 I1 (.bl _) h1⟩
end SE
/-! ### what is walked -/
section
variable {K : PySem.W.Frag} [Tbs K] {dk : Option Addr} {F : Addr → Prop} {H : Hp}
theorem walkL {a : Addr} {vs : List V} {xs : List PV} (f : F a) (e : H a = some (.lst vs)) (r : RepL K dk F H vs xs) : WalkOk K dk F H (Itl K a) xs := by
  refine ⟨fun H' => SqL K H' a vs, YAt vs, by rw [← r.len]; exact walk_list, fun F' H' g => SqL.of (g.keep _ _ f e), ?_⟩
  rintro i F' H' v H'' hi g ⟨rfl, hv⟩
  obtain ⟨x, hx, rx⟩ := r.get hv
  exact ⟨.inl rfl, x, hx, rx.mono g⟩
theorem walkT {a : Addr} {vs : List V} {xs : List PV} (e : SqT K H a vs) (r : RepL K dk F H vs xs) : WalkOk K dk F H (Itt K a) xs := by
  refine ⟨fun H' => SqT K H' a vs, YAt vs, by rw [← r.len]; exact walk_tup, fun F' H' g => g.tup _ _ e, ?_⟩
  rintro i F' H' v H'' hi g ⟨rfl, hv⟩
  obtain ⟨x, hx, rx⟩ := r.get hv
  exact ⟨.inl rfl, x, hx, rx.mono g⟩
end
namespace SI
variable {K : PySem.W.Frag} [Tbs K]
def list (a : SE K) : SI K where
  rd := fun E => iList K (a.rd E)
  wp := fun PE ρ P => a.wp PE ρ fun x ρ1 => ∃ xs, x = .lst xs ∧ P xs ρ1
  ok := by
    intro dk F0 H0 F σ H ρ E PE P R I e h q
    refine a.ok I e h fun v H1 F1 x ρ1 g1 I1 r1 h1 => ?_
    obtain ⟨xs, rfl, h1⟩ := h1
    cases r1 with
    | lst f s l => exact ⟨_, rfl, ⟨_, SqL.of s⟩, q _ _ _ _ _ g1 I1 (walkL f s l) h1⟩
def tup (a : SE K) : SI K where
  rd := fun E => iTup K (a.rd E)
  wp := fun PE ρ P => a.wp PE ρ fun x ρ1 => ∃ xs, x = .tup xs ∧ P xs ρ1
  ok := by
    intro dk F0 H0 F σ H ρ E PE P R I e h q
    refine a.ok I e h fun v H1 F1 x ρ1 g1 I1 r1 h1 => ?_
    obtain ⟨xs, rfl, h1⟩ := h1
    cases r1 with
    | tup s l => exact ⟨_, rfl, ⟨_, s⟩, q _ _ _ _ _ g1 I1 (walkT s l) h1⟩
end SI
end Tw
set_option Elab.async false
set_option linter.all false
set_option maxRecDepth 100000
set_option maxHeartbeats 4000000
/-! errors with two fields; an error without fields that a clause raises from None -/
namespace Tw
open PySem PySem.Spec PyProof.Rows L2
section
variable {X : Cx} {x : Str} {C : Addr} {k : Nat} {f g : Str} {e e2 : Expr} {te tf : TE} {p pos : Pos}
/-- C() in a clause, C without an __init__ -/
theorem pmk5_own0 {bmB : List Value} {B newId initId : String} (F : ExcBaseFacts B newId initId bmB) (q : PySem.W.excIn X.K C bmB newId = true) (gC : X.mg x = some (.ref C)) (kC : PySem.W.keepIn X.K (.ref C) = true) (r : Raises X (.ref C)) (hg : Gl X x)
    (hdb : (x == ("__debug__" : Str)) = false := by decide) : L2H.PMk5 X (.Call (.Name x p) [] [] pos) (fun _ H Q => Q (.ref C) none H) := by
  intro pins s σ H Q I h
  refine wpAny_Call_Name_kw (ld_glob I hg gC ?_ hdb)
  refine PySem.W.callWith_K0 I.kIn kC ?_
  obtain ⟨bm, N, nm, qn, bs, hdct, sn, sub, ab, col, dd, k0, k1, k2, k3, k5, mN, hC, hN, hni, T⟩ := exc_obj I.kIn q
  exact wpAny_call_exc_subT F T hC hN hni (fun h' e hm => L2H.mk_of5 I hm r h (I.hok.gone hm.new)) (Nat.zero_le _)
/-! ### two fields -/
/-- C(x, y), C's own __init__ storing them under f, then g -/
def tMk2 (C : Addr) (f g : Str) (te tf : TE) : L2.St → Hp → XK → Prop := fun σ H Q => te σ H fun v H1 => tf σ H1 fun u H2 => ∀ d, H2 d = none → Q (.ref C) (some d) (upd H2 d (.xd [(g, u), (f, v)]))
def sp_init2 (K : PySem.W.Frag) (C : Addr) (f g : Str) : Sp := fun vs H Q _ => ∃ a v u, vs = [.ref a, v, u] ∧ OexC K C ∧ PySem.W.findIn K (.ref C) f = some none ∧ PySem.W.findIn K (.ref C) g = some none ∧ H a = some (exo a C none) ∧
  ∀ dx, H dx = none → dx ≠ a → Q .non (upd (upd (upd H dx (exd dx [(f, v)])) a (exo a C (some dx))) dx (exd dx [(g, u), (f, v)]))
structure Cls2 (P : Program) (w : World) (K : PySem.W.Frag) (mg : Str → Option Value) (base : Heap) (x f g : Str) (C : Addr) (k : Nat) : Prop where
  oex : OexC K C
  exc : ExcC K C
  xf : XfC K C
  no : PySem.W.findIn K (.ref C) f = some none
  no2 : PySem.W.findIn K (.ref C) g = some none
  glob : mg x = some (.ref C)
  init : ∃ (fI : Addr) (fd : FuncData) (ps : List Str), PySem.W.findIn K (.ref C) "__init__" = some (some (.ref fI)) ∧ PySem.W.typeIn K (.ref fI) = some (.type "function") ∧ FnOk P w K mg base CX0 k fI fd ps (sp_init2 K C f g) ∧ Binds K fd ps []
end
end Tw
set_option Elab.async false
set_option linter.all false
set_option maxRecDepth 100000
set_option maxHeartbeats 4000000
/-! The plain layer: errors. -/
namespace Tw
open PySem PySem.Spec PyProof.Rows L2
section
variable {K : PySem.W.Frag} [Tbs K] {dk : Option Addr} {F0 F F1 F2 : Addr → Prop} {H0 H H1 H2 : Hp} {E : EK} {PE : PEK} {σ : L2.St} {ρ : Env}
/-- the slot of an error at hand -/
theorem PInv.setE (I : PInv K dk F0 H0 F σ H ρ) {i : Nat} {a : Addr} {d : Option Addr} {er : PErr} (h : ErrAt K dk F H d er.2) : PInv K dk F0 H0 F (σ.set i (some (.ref a))) H (ρ.set i (.err a d er)) := by
  have hl : ∀ j b, OwnAt (σ.set i (some (.ref a))) (ρ.set i (.err a d er)) j b → OwnAt σ ρ j b := by
    rintro j b ⟨s, hs, hw, e⟩
    rw [getE_set] at hs e
    by_cases hij : i = j
    · rw [if_pos hij] at hs
      split at hs
      · cases hs; cases hw
      · cases hs
    · rw [if_neg hij] at hs e
      exact ⟨s, hs, hw, e⟩
  refine ⟨I.st, by simp [I.len], fun j s o hs ho => ?_, fun j k b h1 h2 => I.dis j k b (hl j b h1) (hl k b h2), fun j b h => I.fresh j b (hl j b h)⟩
  rw [getE_set] at hs ho
  by_cases hij : i = j
  · rw [if_pos hij] at hs ho
    split at hs
    · cases hs
      split at ho
      · cases ho; exact .err h
      · cases ho
    · cases hs
  · rw [if_neg hij] at hs ho
    exact I.sl j s o hs ho
/-- the dict of an error is kept from now on -/
theorem PInv.keepE (I : PInv K dk F0 H0 F σ H ρ) {d : Option Addr} {fv : List (Str × V)} {fs : List (Str × PV)} (r : RepF K dk F H fv fs) (e : ErrD H0 F H d fv) :
    ∃ F', PInv K dk F0 H0 F' σ H ρ ∧ Grow K F H F' H ∧ ErrAt K dk F' H d fs := by
  rcases e with ⟨rfl, rfl⟩ | ⟨a, rfl, h1, h2, h3⟩
  · cases r
    exact ⟨F, I, Grow.refl, .inl ⟨rfl, rfl⟩⟩
  · have hd : dk ≠ some a := fun e => by
      obtain ⟨x, y, z, q⟩ := I.st.deck a e
      rw [h1] at q; cases q
    have ho : ∀ i, ¬ OwnAt σ ρ i a := by
      rintro i ⟨s, hs, hw, e⟩
      have := I.sl i s _ hs e
      cases this with
      | no => cases hw
      | val => cases hw
      | own e _ => rw [h1] at e; cases e
      | ownD e _ => rw [h1] at e; cases e
      | err => cases hw
    obtain ⟨I2, g2⟩ := I.intoF ⟨h2, h3⟩ h1 hd ho
    exact ⟨_, I2, g2, .inr ⟨a, fv, rfl, .inr rfl, h1, r.mono g2⟩⟩
end
namespace SS
variable {K : PySem.W.Frag} [Tbs K]
/-- raise C() -/
def raise0 (C : Addr) : SS K where
  rd := fun E D σ H => tRaise (E σ) (fun _ H Q => Q (.ref C) none H) D σ H
  wp := fun PE _ ρ => PE ρ (C, [])
  ok := fun I e _ h => e _ _ _ _ C none [] [] Grow.refl I .nil (.inl ⟨rfl, rfl⟩) h
/-- raise C(x) -/
def raise1 (C : Addr) (f : Str) (a : SE K) : SS K where
  rd := fun E D σ H => tRaise (E σ) (tMk1 C f (a.rd E)) D σ H
  wp := fun PE _ ρ => a.wp PE ρ fun x ρ1 => PE ρ1 (C, [(f, x)])
  ok := by
    intro dk F0 H0 F σ H ρ E PE D PD I e d h
    refine a.ok I e h fun v H1 F1 x ρ1 g1 I1 r1 h1 => ?_
    intro p hp
    have fo := I1.st.freshOf hp
    exact e _ _ _ _ C (some p) [(f, v)] [(f, x)] (g1.trans (Grow.new hp)) (I1.new hp) (.cons (r1.mono (Grow.new hp)) .nil) (.inr ⟨p, rfl, upd_same, fo.1, fo.2⟩) h1
/-- raise C(x, y): the fields f, g -/
def raise2 (C : Addr) (f g : Str) (a b : SE K) : SS K where
  rd := fun E D σ H => tRaise (E σ) (tMk2 C f g (a.rd E) (b.rd E)) D σ H
  wp := fun PE _ ρ => a.wp PE ρ fun x ρ1 => b.wp PE ρ1 fun y ρ2 => PE ρ2 (C, [(g, y), (f, x)])
  ok := by
    intro dk F0 H0 F σ H ρ E PE D PD I e d h
    refine a.ok I e h fun v H1 F1 x ρ1 g1 I1 r1 h1 => ?_
    refine b.ok I1 (e.grow g1) h1 fun w H2 F2 y ρ2 g2 I2 r2 h2 => ?_
    intro p hp
    have fo := I2.st.freshOf hp
    exact e _ _ _ _ C (some p) [(g, w), (f, v)] [(g, y), (f, x)] ((g1.trans g2).trans (Grow.new hp)) (I2.new hp) (.cons (r2.mono (Grow.new hp)) (.cons ((r1.mono g2).mono (Grow.new hp)) .nil)) (.inr ⟨p, rfl, upd_same, fo.1, fo.2⟩) h2
/-- try: body except C: cl -/
def tryO (C : Addr) (body cl : SS K) : SS K where
  rd := fun E D σ H => body.rd (WE (wOnly K (.ref C) (fun _ _ _ => cl.rd E) (fun cls d σ H => E σ cls d H) D)) D σ H
  wp := fun PE PD ρ => body.wp (fun ρ1 er => ∃ b, PySem.W.exmOne K (.ref er.1) (.ref C) = some b ∧ (b = true → cl.wp PE PD ρ1) ∧ (b = false → PE ρ1 er)) PD ρ
  ok := by
    intro dk F0 H0 F σ H ρ E PE D PD I e d h
    refine body.ok I (fun F' σ' H' ρ' C' d' fv fs g I' r ed p => ?_) d h
    obtain ⟨b, hb, h1, h2⟩ := p
    refine ⟨b, hb, fun hb1 a ha => ?_, fun hb2 => e _ _ _ _ _ _ _ _ g I' r ed (h2 hb2)⟩
    exact cl.ok I' (e.grow g) (d.grow g) (h1 hb1)
/-- try: body except C as x: cl; x is slot i -/
def tryA (C : Addr) (i : Nat) (body : SS K) (cl : Addr → Value → Option Addr → SS K) : SS K where
  rd := fun E D σ H => body.rd (WE (wAs K (.ref C) i (fun a cls d => (cl a cls d).rd E) (fun cls d σ H => E σ cls d H) D)) D σ H
  wp := fun PE PD ρ => body.wp (fun ρ1 er => ∃ b, PySem.W.exmOne K (.ref er.1) (.ref C) = some b ∧
    (b = true → ∀ a d, (cl a (.ref er.1) d).wp PE { nx := fun ρ' => PD.nx (ρ'.set i .no), rt := PD.rt, bk := fun ρ' => PD.bk (ρ'.set i .no), ct := fun ρ' => PD.ct (ρ'.set i .no) } (ρ1.set i (.err a d er))) ∧ (b = false → PE ρ1 er)) PD ρ
  ok := by
    intro dk F0 H0 F σ H ρ E PE D PD I e d h
    refine body.ok I (fun F' σ' H' ρ' C' d' fv fs g I' r ed p => ?_) d h
    obtain ⟨b, hb, h1, h2⟩ := p
    refine ⟨b, hb, fun hb1 a ha => ?_, fun hb2 => e _ _ _ _ _ _ _ _ g I' r ed (h2 hb2)⟩
    obtain ⟨F2, I2, g2, ea⟩ := I'.keepE r ed
    have g12 := g.trans g2
    refine (cl a (.ref C') d').ok (I2.setE (i := i) (a := a) (er := (C', fs)) ea) (e.grow g12) ⟨?_, ?_, ?_, ?_⟩ (h1 hb1 a d')
    · exact fun F3 σ3 H3 ρ3 g3 I3 h3 => d.nx _ _ _ _ (g12.trans g3) I3.setN h3
    · exact d.rt
    · exact fun F3 σ3 H3 ρ3 g3 I3 h3 => d.bk _ _ _ _ (g12.trans g3) I3.setN h3
    · exact fun F3 σ3 H3 ρ3 g3 I3 h3 => d.ct _ _ _ _ (g12.trans g3) I3.setN h3
end SS
/-- what several clauses do, one after the other -/
def wpMany {K : PySem.W.Frag} [Tbs K] (PE : PEK) (PD : PEnds) : List (Addr × SS K) → PEK
  | [] => PE
  | (C, cl) :: r => fun ρ1 er => ∃ b, PySem.W.exmOne K (.ref er.1) (.ref C) = some b ∧ (b = true → cl.wp PE PD ρ1) ∧ (b = false → wpMany PE PD r ρ1 er)
namespace SS
variable {K : PySem.W.Frag} [Tbs K]
def tryM (body : SS K) (l : List (Addr × SS K)) : SS K where
  rd := fun E D σ H => body.rd (WE (wMany K (fun cls d σ H => E σ cls d H) D (l.map fun c => (.ref c.1, fun _ _ _ => c.2.rd E)))) D σ H
  wp := fun PE PD ρ => body.wp (wpMany PE PD l) PD ρ
  ok := by
    intro dk F0 H0 F σ H ρ E PE D PD I e d h
    refine body.ok I (fun F' σ' H' ρ' C' d' fv fs g I' r ed p => ?_) d h
    have hm : ∀ l : List (Addr × SS K), wpMany PE PD l ρ' (C', fs) → wMany K (fun cls d σ H => E σ cls d H) D (l.map fun c => (.ref c.1, fun _ _ _ => c.2.rd E)) (.ref C') d' σ' H' := by
      intro l
      induction l with
      | nil => exact fun p => e _ _ _ _ _ _ _ _ g I' r ed p
      | cons c l ih =>
        rintro ⟨b, hb, h1, h2⟩
        exact ⟨b, hb, fun hb1 a ha => c.2.ok I' (e.grow g) (d.grow g) (h1 hb1), fun hb2 => ih (h2 hb2)⟩
    exact hm l p
end SS
namespace SE
variable {K : PySem.W.Frag} [Tbs K]
/-- e.f of the error at hand -/
def xf (a : Addr) (cls : Value) (d : Option Addr) (C : Addr) (f : Str) (i : Nat) : SE K where
  rd := fun _ => tXf a cls d C f (tVar i)
  wp := fun _ ρ P => ∃ er x, ρ[i]? = some (.err a d er) ∧ cls = .ref C ∧ er.2.lookup f = some x ∧ P x ρ
  ok := by
    intro dk F0 H0 F σ H ρ E PE P Q I e h q
    obtain ⟨er, x, hi, hc, hl, h⟩ := h
    obtain ⟨o, ho, s⟩ := I.slot hi
    cases s with
    | err ea =>
      rcases ea with ⟨_, e2⟩ | ⟨p, fv, rfl, fp, hp, r⟩
      · rw [e2] at hl; cases hl
      · obtain ⟨v, hv, rv⟩ := r.get hl
        exact ⟨_, ho, rfl, hc, p, fv, v, rfl, hp, hv, q _ _ _ _ _ Grow.refl I rv h⟩
/-- isinstance(e, X) of the error at hand (with fields) -/
def isE (a : Addr) (cls : Value) (d : Option Addr) (C X : Addr) (i : Nat) : SE K where
  rd := fun _ => tCB (rIsD K C cls d a) (tCons (tVar i) (tCons (tC (.ref X)) tNil))
  wp := fun _ ρ P => ∃ er b, ρ[i]? = some (.err a d er) ∧ er.2 ≠ [] ∧ cls = .ref C ∧ PySem.W.kitOne K (.ref C) (.ref X) = some b ∧ P (.bl b) ρ
  ok := by
    intro dk F0 H0 F σ H ρ E PE P Q I e h q
    obtain ⟨er, b, hi, hn, hc, hk, h⟩ := h
    obtain ⟨o, ho, s⟩ := I.slot hi
    cases s with
    | err ea =>
      rcases ea with ⟨_, e2⟩ | ⟨p, fv, rfl, fp, hp, r⟩
      · exact absurd e2 hn
      · exact ⟨_, ho, .ref X, .ref X, b, rfl, hc, ⟨p, fv, rfl, hp⟩, fun u z => z, hk, q _ _ _ _ _ Grow.refl I (.bl _) h⟩
end SE
end Tw
set_option Elab.async false
set_option linter.all false
set_option maxRecDepth 100000
set_option maxHeartbeats 4000000
/-! the laws' own way to skeletons and gaps -/
namespace Tw
open PySem PySem.Spec PyProof.Rows L2 TL
local macro_rules | `(tactic| walk_at "rd") => `(tactic| try simp only [o_op, o_un, o_var, o_c, o_cb, o_call, o_cons, o_nil, o_tup, o_lst, o_I0, o_I, o_int1, o_intb, o_abs, o_test, o_b, o_not, o_and, o_or, o_andV, o_orV, o_notV, o_ifE, o_isN, o_notN, o_eq, o_ne, o_seq, o_next, o_asg, o_name, o_sub, o_par, o_par3, o_drop, o_ret, o_retN, o_ifS, o_sl, o_noPart, o_part, o_bm, o_bm0, o_m0, o_m1, o_dget, o_dput, o_din, o_dnotin, o_listKeys, e_bl, e_int, e_str, e_some, e_two, e_three, o_for, o_lc, o_iList, o_iTup, o_iRng1, e_int1, e_ref, o_yes, o_wipe0, o_wipe1, o_disp, o_dnew, o_pairs0, o_pairs1, o_lock, o_keysM, o_gtup, o_gcons, o_gnil, o_rU, o_tru, o_revT, o_enumT, o_from, true_and, if_pos, List.getElem?_cons_zero, List.getElem?_cons_succ, List.set_cons_zero, List.set_cons_succ, List.append_nil])
section
variable {K : PySem.W.Frag}
/-- the last of trees -/
theorem Rp.last {H : Hp} {vs : List V} {X c : Fo} {n : Str} (h : Rp K H vs (X.app (.cons n c .nil))) : ∃ u t k kvs, vs = u ++ [.ref t] ∧ Rp K H u X ∧ SqT K H t [.str n, .ref k] ∧ SqT K H k kvs ∧ Rp K H kvs c := by
  obtain ⟨u, v2, rfl, r1, r2⟩ := h.split
  cases r2 with
  | @cons t k _ kvs _ _ _ a b cc d =>
    cases d
    exact ⟨u, t, k, kvs, rfl, r1, a, b, cc⟩
end
end Tw
set_option Elab.async false
set_option linter.all false
set_option maxRecDepth 100000
set_option maxHeartbeats 4000000
/-! The plain layer: more operations, own lists read, targets, what is walked. -/
namespace Tw
open PySem PySem.Spec PyProof.Rows L2
/-! ### reading an own list -/
namespace SE
variable {K : PySem.W.Frag} [Tbs K]
def lenO (i : Nat) : SE K where
  rd := fun _ => tCB (rLenSeq K) (tCons (tVar i) tNil)
  wp := fun _ ρ P => ∃ xs, ρ[i]? = some (.own xs) ∧ P (.int xs.length) ρ
  ok := by
    intro dk F0 H0 F σ H ρ E PE P Q I e h q
    obtain ⟨xs, hi, h⟩ := h
    obtain ⟨a, vs, hσ, hl, r, o⟩ := I.ownL hi
    exact ⟨_, hσ, a, vs, rfl, .inl (SqL.of hl), by rw [r.len]; exact q _ _ _ _ _ Grow.refl I (.int _) h⟩
def tupO (i : Nat) : SE K where
  rd := fun _ => tCB (rTupleOf K) (tCons (tVar i) tNil)
  wp := fun _ ρ P => ∃ xs, ρ[i]? = some (.own xs) ∧ P (.tup xs) ρ
  ok := by
    intro dk F0 H0 F σ H ρ E PE P Q I e h q
    obtain ⟨xs, hi, h⟩ := h
    obtain ⟨a, vs, hσ, hl, r, o⟩ := I.ownL hi
    exact ⟨_, hσ, a, vs, rfl, .inl ⟨SqL.of hl, fun p hp => q _ _ _ _ _ (Grow.new hp) (I.new hp) (.tup (SqT.of upd_same) (r.mono (Grow.new hp))) h⟩⟩
def ixO (i : Nat) (b : SE K) : SE K where
  rd := fun E => tOp (rIxL K) (tVar i) (b.rd E)
  wp := fun PE ρ P => ∃ xs0, ρ[i]? = some (.own xs0) ∧ b.wp PE ρ fun y ρ1 => ∃ xs k u, ρ1[i]? = some (.own xs) ∧ y = .int k ∧ L2.atI xs k = some u ∧ P u ρ1
  ok := by
    intro dk F0 H0 F σ H ρ E PE P Q I e h q
    obtain ⟨xs0, hi, h⟩ := h
    obtain ⟨a, vs, hσ, hl, r, o⟩ := I.ownL hi
    refine ⟨_, hσ, b.ok I e h fun w H1 F1 y ρ1 g1 I1 r1 h1 => ?_⟩
    obtain ⟨xs, k, u, hi1, rfl, hk, h1⟩ := h1
    obtain ⟨a', vs', hσ', hl', r', o'⟩ := I1.ownL hi1
    rw [hσ] at hσ'; cases hσ'
    cases r1
    obtain ⟨v, hv, rv⟩ := r'.atI hk
    exact ⟨a, vs', k, v, rfl, rfl, SqL.of hl', hv, q _ _ _ _ _ g1 I1 rv h1⟩
/-- a text in an own list of texts -/
def inO (neg : Bool) (a : SE K) (i : Nat) : SE K where
  rd := fun E => tOp (rIn K neg) (a.rd E) (tVar i)
  wp := fun PE ρ P => a.wp PE ρ fun x ρ1 => ∃ (n : Str) (zs : List Str), x = .str n ∧ ρ1[i]? = some (.own (zs.map .str)) ∧ P (.bl (neg != decide (n ∈ zs))) ρ1
  ok := by
    intro dk F0 H0 F σ H ρ E PE P Q I e h q
    refine a.ok I e h fun w H1 F1 y ρ1 g1 I1 r1 h1 => ?_
    obtain ⟨n, zs, rfl, hi, h1⟩ := h1
    obtain ⟨l, vs, hσ, hl, r, o⟩ := I1.ownL hi
    cases r1
    have := r.strs; subst this
    have e : (if neg = true then !inV (.str n) (zs.map V.str) else inV (.str n) (zs.map V.str)) = (neg != decide (n ∈ zs)) := by
      rw [inV_str]; cases neg <;> simp
    exact ⟨_, hσ, l, _, rfl, .inl (SqL.of hl), rfl, flat_strs zs, by rw [e]; exact q _ _ _ _ _ g1 I1 (.bl _) h1⟩
/-- xs == [] -/
def eqEO (neg : Bool) (i : Nat) : SE K where
  rd := fun _ => tOp (rEqE K neg) (tVar i) (tLst tNil)
  wp := fun _ ρ P => ∃ xs, ρ[i]? = some (.own xs) ∧ P (.bl (neg != xs.isEmpty)) ρ
  ok := by
    intro dk F0 H0 F σ H ρ E PE P Q I e h q
    obtain ⟨xs, hi, h⟩ := h
    obtain ⟨a, vs, hσ, hl, r, o⟩ := I.ownL hi
    refine ⟨_, hσ, Nat.zero_le _, fun p hp => ?_⟩
    have hl2 : upd H p (.lst []) a = some (.lst vs) := by rw [upd_ne (ne_of_none hl hp)]; exact hl
    exact ⟨a, p, vs, rfl, rfl, .inl ⟨SqL.of hl2, SqL.of upd_same⟩, by rw [r.emp]; exact q _ _ _ _ _ (Grow.new hp) (I.new hp) (.bl _) h⟩
def popAt (i : Nat) (b : SE K) : SE K where
  rd := fun E => tBM K "list" rPopAt (tVar i) (tCons (b.rd E) tNil)
  wp := fun PE ρ P => ∃ xs0, ρ[i]? = some (.own xs0) ∧ b.wp PE ρ fun y ρ1 => ∃ xs k j u, ρ1[i]? = some (.own xs) ∧ y = .int k ∧ -(2 ^ 63) ≤ k ∧ k < 2 ^ 63 ∧ seqIndex? k xs.length = some j ∧ xs[j]? = some u ∧ P u (ρ1.set i (.own (xs.eraseIdx j)))
  ok := by
    intro dk F0 H0 F σ H ρ E PE P Q I e h q
    obtain ⟨xs0, hi, h⟩ := h
    obtain ⟨a, vs, hσ, hl, r, o⟩ := I.ownL hi
    refine ⟨_, hσ, .inl ⟨rfl, vs, SqL.of hl⟩, b.ok I e h fun w H1 F1 y ρ1 g1 I1 r1 h1 => ?_⟩
    obtain ⟨xs, k, j, u, hi1, rfl, k1, k2, hk, hu, h1⟩ := h1
    obtain ⟨a', vs', hσ', hl', r', o'⟩ := I1.ownL hi1
    rw [hσ] at hσ'; cases hσ'
    cases r1
    obtain ⟨v, hv, rv⟩ := r'.get2 hu
    obtain ⟨I2, g2⟩ := I1.chgL o' hl' (r'.erase j)
    exact ⟨a, vs', k, j, v, rfl, rfl, hl', k1, k2, by rw [r'.len]; exact hk, hv, q _ _ _ _ _ (g1.trans g2) I2 (rv.mono g2) h1⟩
end SE
namespace ST
variable {K : PySem.W.Frag} [Tbs K]
def truO (i : Nat) : ST K where
  rd := fun _ => tTru K (tVar i)
  wp := fun _ ρ P => ∃ xs, ρ[i]? = some (.own xs) ∧ P (!xs.isEmpty) ρ
  ok := by
    intro dk F0 H0 F σ H ρ E PE P Q I e h q
    obtain ⟨xs, hi, h⟩ := h
    obtain ⟨a, vs, hσ, hl, r, o⟩ := I.ownL hi
    exact ⟨_, hσ, _, .inl ⟨vs, SqL.of hl, rfl⟩, by rw [r.emp]; exact q _ _ _ _ Grow.refl I h⟩
end ST
namespace SN
variable {K : PySem.W.Frag} [Tbs K]
def listO (i : Nat) : SN K where
  rd := fun _ => tCB (rListOf K) (tCons (tVar i) tNil)
  wp := fun _ ρ P => ∃ xs, ρ[i]? = some (.own xs) ∧ P xs ρ
  ok := by
    intro dk F0 H0 F σ H ρ E PE P Q I e h q
    obtain ⟨xs, hi, h⟩ := h
    obtain ⟨a, vs, hσ, hl, r, o⟩ := I.ownL hi
    refine ⟨_, hσ, a, vs, rfl, .inl (SqL.of hl), fun p hp => ?_⟩
    obtain ⟨I4, g4, e4, r4, a1, a2, a3, a4⟩ := I.laid hp r
    exact q _ _ _ _ _ _ g4 I4 e4 r4 a1 a2 a3 a4 h
def slO (i : Nat) (lo hi : SP_ K) : SN K where
  rd := fun E => L2.tSl (rSlL K) (tVar i) (lo.rd E) (hi.rd E)
  wp := fun PE ρ P => ∃ xs0, ρ[i]? = some (.own xs0) ∧ lo.wp PE ρ fun l ρ2 => hi.wp PE ρ2 fun h ρ3 => ∃ xs, ρ3[i]? = some (.own xs) ∧ P (cutP xs l h) ρ3
  ok := by
    intro dk F0 H0 F σ H ρ E PE P Q I e h q
    obtain ⟨xs0, hi0, h⟩ := h
    obtain ⟨a, vs, hσ, hl, r, o⟩ := I.ownL hi0
    refine ⟨_, hσ, lo.ok I e h fun l H2 F2 ρ2 g2 I2 h2 => ?_⟩
    refine hi.ok I2 (e.grow g2) h2 fun u H3 F3 ρ3 g3 I3 h3 => ?_
    obtain ⟨xs, hi3, h3⟩ := h3
    obtain ⟨a', vs', hσ', hl', r', o'⟩ := I3.ownL hi3
    rw [hσ] at hσ'; cases hσ'
    refine ⟨a, vs', rfl, SqL.of hl', fun p hp => ?_⟩
    obtain ⟨I4, g4, e4, r4, a1, a2, a3, a4⟩ := I3.laid hp (r'.cut l u)
    exact q _ _ _ _ _ _ ((g2.trans g3).trans g4) I4 e4 r4 a1 a2 a3 a4 h3
/-- xs[::-1] -/
def revL (a : SE K) : SN K where
  rd := fun E => tRevL K (a.rd E)
  wp := fun PE ρ P => a.wp PE ρ fun x ρ1 => ∃ xs, x = .lst xs ∧ P xs.reverse ρ1
  ok := by
    intro dk F0 H0 F σ H ρ E PE P Q I e h q
    refine a.ok I e h fun v H1 F1 x ρ1 g1 I1 r1 h1 => ?_
    obtain ⟨xs, rfl, h1⟩ := h1
    cases r1 with
    | lst f s r =>
      refine ⟨_, _, rfl, SqL.of s, fun p hp => ?_⟩
      obtain ⟨I4, g4, e4, r4, a1, a2, a3, a4⟩ := I1.laid hp r.rev
      exact q _ _ _ _ _ _ (g1.trans g4) I4 e4 r4 a1 a2 a3 a4 h1
/-- xs * n -/
def rep (a b : SE K) : SN K where
  rd := fun E => tOp rRep (a.rd E) (b.rd E)
  wp := fun PE ρ P => a.wp PE ρ fun x ρ1 => b.wp PE ρ1 fun y ρ2 => ∃ xs k, x = .lst xs ∧ y = .int k ∧ -(2 ^ 63) ≤ k ∧ k < 2 ^ 63 ∧ xs.length * k.toNat ≤ sizeLine ∧ P (List.replicate k.toNat xs).flatten ρ2
  ok := by
    intro dk F0 H0 F σ H ρ E PE P Q I e h q
    refine a.ok I e h fun v H1 F1 x ρ1 g1 I1 r1 h1 => ?_
    refine b.ok I1 (e.grow g1) h1 fun w H2 F2 y ρ2 g2 I2 r2 h2 => ?_
    obtain ⟨xs, k, rfl, rfl, k1, k2, hz, h2⟩ := h2
    have r1' := r1.mono g2
    cases r2
    cases r1' with
    | lst f1 s1 l1 =>
      refine ⟨_, k, _, rfl, rfl, s1, k1, k2, by rw [l1.len]; exact hz, fun p hp => ?_⟩
      have hr : ∀ n, RepL K dk F2 H2 (List.replicate n _).flatten (List.replicate n xs).flatten := fun n => by
        induction n with
        | zero => exact .nil
        | succ n ih => rw [List.replicate_succ, List.replicate_succ, List.flatten_cons, List.flatten_cons]; exact l1.app ih
      obtain ⟨I4, g4, e4, r4, a1, a2, a3, a4⟩ := I2.laid hp (hr k.toNat)
      exact q _ _ _ _ _ _ ((g1.trans g2).trans g4) I4 e4 r4 a1 a2 a3 a4 h2
/-- sorted(xs), texts, fewer than 64 -/
def sortedS (a : SE K) : SN K where
  rd := fun E => tCB (rSortedS K) (tCons (a.rd E) tNil)
  wp := fun PE ρ P => a.wp PE ρ fun x ρ1 => ∃ zs : List Str, x = .lst (zs.map .str) ∧ zs.length < 64 ∧ ∀ ys : List Str, ys.Perm zs → PyProof.Rows.sortedS ys = true → P (ys.map .str) ρ1
  ok := by
    intro dk F0 H0 F σ H ρ E PE P Q I e h q
    refine a.ok I e h fun v H1 F1 x ρ1 g1 I1 r1 h1 => ?_
    obtain ⟨zs, rfl, hz, h1⟩ := h1
    cases r1 with
    | lst f s r =>
      have := r.strs; subst this
      refine ⟨_, zs, rfl, SqL.of s, hz, fun ys p hp hs hn => ?_⟩
      obtain ⟨I4, g4, e4, r4, a1, a2, a3, a4⟩ := I1.laid hn (RepL.ofStrs ys)
      exact q _ _ _ _ _ _ (g1.trans g4) I4 e4 r4 a1 a2 a3 a4 (h1 ys hp hs)
/-- sorted(xs), ints -/
def sortedI (a : SE K) : SN K where
  rd := fun E => tCB (rSortedI K) (tCons (a.rd E) tNil)
  wp := fun PE ρ P => a.wp PE ρ fun x ρ1 => ∃ zs : List Int, x = .lst (zs.map .int) ∧ ∀ ys : List Int, ys.Perm zs → ys.Pairwise (· ≤ ·) → P (ys.map .int) ρ1
  ok := by
    intro dk F0 H0 F σ H ρ E PE P Q I e h q
    refine a.ok I e h fun v H1 F1 x ρ1 g1 I1 r1 h1 => ?_
    obtain ⟨zs, rfl, h1⟩ := h1
    cases r1 with
    | lst f s r =>
      have := r.ints; subst this
      refine ⟨_, zs, rfl, SqL.of s, fun ys p hp hs hn => ?_⟩
      have ri : ∀ l : List Int, RepL K dk F1 H1 (l.map V.int) (l.map .int) := fun l => by
        induction l with
        | nil => exact .nil
        | cons i l ih => exact .cons (.int i) ih
      obtain ⟨I4, g4, e4, r4, a1, a2, a3, a4⟩ := I1.laid hn (ri ys)
      exact q _ _ _ _ _ _ (g1.trans g4) I4 e4 r4 a1 a2 a3 a4 (h1 ys hp hs)
end SN
/-! ### changing an own list -/
namespace SS
variable {K : PySem.W.Frag} [Tbs K]
def extendT (i : Nat) (a : SE K) : SS K where
  rd := fun E => tDrop (tBM K "list" (rExtendT K) (tVar i) (tCons (a.rd E) tNil))
  wp := fun PE PD ρ => ∃ xs0, ρ[i]? = some (.own xs0) ∧ a.wp PE ρ fun y ρ1 => ∃ xs ys, ρ1[i]? = some (.own xs) ∧ y = .tup ys ∧ xs.length + ys.length ≤ sizeLine ∧ PD.nx (ρ1.set i (.own (xs ++ ys)))
  ok := by
    intro dk F0 H0 F σ H ρ E PE D PD I e d h
    obtain ⟨xs0, h0, h⟩ := h
    obtain ⟨l, vs, hσ, hl, _, _⟩ := I.ownL h0
    refine ⟨_, hσ, .inl ⟨rfl, vs, SqL.of hl⟩, ?_⟩
    refine a.ok I e h fun v H1 F1 y ρ1 g1 I1 r1 h1 => ?_
    obtain ⟨xs, ys, h2, rfl, h3, h4⟩ := h1
    obtain ⟨l', vs', hσ', hl', rl, o⟩ := I1.ownL h2
    rw [hσ] at hσ'; cases hσ'
    cases r1 with
    | tup s r =>
      obtain ⟨I2, g2⟩ := I1.chgL o hl' (rl.app r)
      exact ⟨l, _, vs', _, rfl, rfl, hl', s, by rw [rl.len, r.len]; exact h3, d.nx _ _ _ _ (g1.trans g2) I2 h4⟩
def extendL (i : Nat) (a : SE K) : SS K where
  rd := fun E => tDrop (tBM K "list" rExtend (tVar i) (tCons (a.rd E) tNil))
  wp := fun PE PD ρ => ∃ xs0, ρ[i]? = some (.own xs0) ∧ a.wp PE ρ fun y ρ1 => ∃ xs ys, ρ1[i]? = some (.own xs) ∧ y = .lst ys ∧ xs.length + ys.length ≤ sizeLine ∧ PD.nx (ρ1.set i (.own (xs ++ ys)))
  ok := by
    intro dk F0 H0 F σ H ρ E PE D PD I e d h
    obtain ⟨xs0, h0, h⟩ := h
    obtain ⟨l, vs, hσ, hl, _, _⟩ := I.ownL h0
    refine ⟨_, hσ, .inl ⟨rfl, vs, SqL.of hl⟩, ?_⟩
    refine a.ok I e h fun v H1 F1 y ρ1 g1 I1 r1 h1 => ?_
    obtain ⟨xs, ys, h2, rfl, h3, h4⟩ := h1
    obtain ⟨l', vs', hσ', hl', rl, o⟩ := I1.ownL h2
    rw [hσ] at hσ'; cases hσ'
    cases r1 with
    | lst f s r =>
      obtain ⟨I2, g2⟩ := I1.chgL o hl' (rl.app r)
      exact ⟨l, _, vs', _, rfl, rfl, hl', s, by rw [rl.len, r.len]; exact h3, d.nx _ _ _ _ (g1.trans g2) I2 h4⟩
def insert (i : Nat) (a b : SE K) : SS K where
  rd := fun E => tDrop (tBM K "list" rInsert (tVar i) (tCons (a.rd E) (tCons (b.rd E) tNil)))
  wp := fun PE PD ρ => ∃ xs0, ρ[i]? = some (.own xs0) ∧ a.wp PE ρ fun y ρ1 => b.wp PE ρ1 fun z ρ2 => ∃ xs k, ρ2[i]? = some (.own xs) ∧ y = .int k ∧ xs.length < sizeLine ∧ 0 ≤ k ∧ k < 2 ^ 63 ∧ PD.nx (ρ2.set i (.own (xs.take k.toNat ++ [z] ++ xs.drop k.toNat)))
  ok := by
    intro dk F0 H0 F σ H ρ E PE D PD I e d h
    obtain ⟨xs0, h0, h⟩ := h
    obtain ⟨l, vs, hσ, hl, _, _⟩ := I.ownL h0
    refine ⟨_, hσ, .inl ⟨rfl, vs, SqL.of hl⟩, ?_⟩
    refine a.ok I e h fun v H1 F1 y ρ1 g1 I1 r1 h1 => ?_
    refine b.ok I1 (e.grow g1) h1 fun w H2 F2 z ρ2 g2 I2 r2 h2 => ?_
    obtain ⟨xs, k, hi, rfl, hz, k0, k1, h3⟩ := h2
    obtain ⟨l', vs', hσ', hl', rl, o⟩ := I2.ownL hi
    rw [hσ] at hσ'; cases hσ'
    cases r1
    obtain ⟨I3, g3⟩ := I2.chgL o hl' (((rl.take k.toNat).app (.one r2)).app (rl.drop k.toNat))
    exact ⟨l, vs', k, w, rfl, rfl, hl', by rw [rl.len]; exact hz, k0, k1, d.nx _ _ _ _ ((g1.trans g2).trans g3) I3 h3⟩
/-- xs[k] = e -/
def setL (i : Nat) (k a : SE K) : SS K where
  rd := fun E => tAsg (a.rd E) (gSub (tVar i) (k.rd E) rSetL)
  wp := fun PE PD ρ => a.wp PE ρ fun z ρ1 => ∃ xs0, ρ1[i]? = some (.own xs0) ∧ k.wp PE ρ1 fun y ρ2 => ∃ xs m j, ρ2[i]? = some (.own xs) ∧ y = .int m ∧ ixN xs.length m = some j ∧ PD.nx (ρ2.set i (.own (xs.set j z)))
  ok := by
    intro dk F0 H0 F σ H ρ E PE D PD I e d h
    refine a.ok I e h fun v H1 F1 z ρ1 g1 I1 r1 h1 => ?_
    obtain ⟨xs0, h0, h1⟩ := h1
    obtain ⟨l, vs, hσ, hl, _, _⟩ := I1.ownL h0
    refine ⟨_, hσ, k.ok I1 (e.grow g1) h1 fun w H2 F2 y ρ2 g2 I2 r2 h2 => ?_⟩
    obtain ⟨xs, m, j, hi, rfl, hj, h3⟩ := h2
    obtain ⟨l', vs', hσ', hl', rl, o⟩ := I2.ownL hi
    rw [hσ] at hσ'; cases hσ'
    cases r2
    obtain ⟨I3, g3⟩ := I2.chgL o hl' (rl.set (r1.mono g2) j)
    exact ⟨l, vs', m, j, rfl, rfl, hl', by rw [rl.len]; exact hj, d.nx _ _ _ _ ((g1.trans g2).trans g3) I3 h3⟩
end SS
/-! ### targets -/
def gNames : List Nat → TGs
  | [] => gNil
  | i :: r => gCons (gName i) (gNames r)
def setAll : Env → List Nat → List PV → Env
  | ρ, i :: is, x :: xs => setAll (ρ.set i (.val x)) is xs
  | ρ, _, _ => ρ
section
variable {K : PySem.W.Frag} [Tbs K] {dk : Option Addr} {F0 F : Addr → Prop} {H0 H : Hp} {σ : L2.St} {ρ : Env}
theorem names_ok {P : Env → Prop} {Q : L2.St → Hp → Prop} : ∀ (sl : List Nat) {σ : L2.St} {ρ : Env} {vs : List V} {xs : List PV}, PInv K dk F0 H0 F σ H ρ → RepL K dk F H vs xs → xs.length = sl.length → P (setAll ρ sl xs) →
    (∀ σ' ρ', σ'.length = σ.length → (∀ j, j ∉ sl → σ'[j]? = σ[j]?) → PInv K dk F0 H0 F σ' H ρ' → P ρ' → Q σ' H) → gNames sl vs σ H Q
  | [], σ, ρ, vs, xs, I, r, hl, h, q => by
    cases r with
    | nil => exact ⟨rfl, q σ ρ rfl (fun _ _ => rfl) I h⟩
    | cons a b => cases hl
  | i :: sl, σ, ρ, vs, xs, I, r, hl, h, q => by
    cases r with
    | nil => cases hl
    | @cons v x vs xs a b =>
      refine ⟨v, vs, rfl, names_ok sl (I.setV (i := i) a) b (by simpa using hl) h fun σ' ρ' h1 h2 I' h' => q σ' ρ' (by rw [h1, List.length_set]) (fun j hj => ?_) I' h'⟩
      rw [h2 j (fun z => hj (List.mem_cons_of_mem _ z)), getE_set, if_neg (fun z : i = j => hj (by rw [z]; exact List.mem_cons_self ..))]
end
namespace SG
variable {K : PySem.W.Frag} [Tbs K]
def tup (sl : List Nat) : SG K where
  rd := gTup K sl.length (gNames sl)
  sl := sl
  wp := fun x ρ P => ∃ xs, x = .tup xs ∧ xs.length = sl.length ∧ P (setAll ρ sl xs)
  ok := by
    intro dk F0 H0 F σ H ρ v x P Q I r h q
    obtain ⟨xs, rfl, hl, h⟩ := h
    cases r with
    | tup s l => exact ⟨_, _, rfl, s, by rw [l.len]; exact hl, names_ok sl I l hl h q⟩
def unl (sl : List Nat) : SG K where
  rd := gUnl K sl.length (gNames sl)
  sl := sl
  wp := fun x ρ P => ∃ xs, x = .lst xs ∧ xs.length = sl.length ∧ P (setAll ρ sl xs)
  ok := by
    intro dk F0 H0 F σ H ρ v x P Q I r h q
    obtain ⟨xs, rfl, hl, h⟩ := h
    cases r with
    | lst f s l => exact ⟨_, _, rfl, SqL.of s, by rw [l.len]; exact hl, names_ok sl I l hl h q⟩
end SG
namespace SS
variable {K : PySem.W.Frag} [Tbs K]
def asg2 (a : SE K) (g1 g2 : SG K) : SS K where
  rd := fun E => tAsg2 (a.rd E) g1.rd g2.rd
  wp := fun PE PD ρ => a.wp PE ρ fun x ρ1 => g1.wp x ρ1 fun ρ2 => g2.wp x ρ2 PD.nx
  ok := by
    intro dk F0 H0 F σ H ρ E PE D PD I e d h
    refine a.ok I e h fun v H1 F1 x ρ1 g I1 r1 h1 => ?_
    exact g1.ok I1 r1 h1 fun σ' ρ' _ _ I' h' => g2.ok I' r1 h' fun σ2 ρ2 _ _ I2 h2 => d.nx _ _ _ _ g I2 h2
end SS
/-! ### two stores at once -/
inductive PR (K : PySem.W.Frag) [Tbs K] where
  | val (a : SE K)
  | own (n : SN K)
def PR.rd {K : PySem.W.Frag} [Tbs K] : PR K → EK → TE
  | .val a => a.rd
  | .own n => n.rd
def PR.wp {K : PySem.W.Frag} [Tbs K] : PR K → PEK → Env → (Sl → Env → Prop) → Prop
  | .val a, PE, ρ, P => a.wp PE ρ fun x ρ1 => P (.val x) ρ1
  | .own n, PE, ρ, P => n.wp PE ρ fun xs ρ1 => P (.own xs) ρ1
namespace SS
variable {K : PySem.W.Frag} [Tbs K]
def par (i j : Nat) (a b : PR K) : SS K where
  rd := fun E => tPar i j (tCons (a.rd E) (tCons (b.rd E) tNil))
  wp := fun PE PD ρ => i ≠ j ∧ a.wp PE ρ fun x ρ1 => b.wp PE ρ1 fun y ρ2 => PD.nx ((ρ2.set i x).set j y)
  ok := by
    intro dk F0 H0 F σ H ρ E PE D PD I e d h
    obtain ⟨hij, h⟩ := h
    match a, h with
    | .val a, h =>
      refine a.ok I e h fun v H1 F1 x ρ1 g1 I1 r1 h1 => ?_
      match b, h1 with
      | .val b, h1 =>
        refine b.ok I1 (e.grow g1) h1 fun w H2 F2 y ρ2 g2 I2 r2 h2 => ?_
        exact ⟨v, w, rfl, d.nx _ _ _ _ (g1.trans g2) ((I2.setV (r1.mono g2)).setV r2) h2⟩
      | .own b, h1 =>
        refine b.ok I1 (e.grow g1) h1 fun c ws H2 F2 ys ρ2 g2 I2 e2 r2 a1 a2 a3 a4 h2 => ?_
        refine ⟨v, .ref c, rfl, d.nx _ _ _ _ (g1.trans g2) ((I2.setV (r1.mono g2)).setO (.own e2 r2) ⟨a1, a2⟩ fun k hk => ?_) h2⟩
        obtain ⟨s, hs, hw, ee⟩ := hk
        rw [getE_set] at hs ee
        by_cases hik : i = k
        · rw [if_pos hik] at hs
          split at hs
          · cases hs; cases hw
          · cases hs
        · rw [if_neg hik] at hs ee
          exact (a4 k ⟨s, hs, hw, ee⟩).elim
    | .own a, h =>
      refine a.ok I e h fun p vs H1 F1 xs ρ1 g1 I1 e1 r1 p1 p2 p3 p4 h1 => ?_
      have nf : ¬ F0 p := fun z => p2 (I1.st.f0 _ z)
      have IB := I1.rebase p1 p3 e1 p2 p4
      have EB := (e.grow g1).rebase (o := .lst vs) p1 p3
      match b, h1 with
      | .val b, h1 =>
        refine b.ok IB EB h1 fun w H2 F2 y ρ2 g2 I2 r2 h2 => ?_
        have e2 : H2 p = some (.lst vs) := I2.st.base p _ upd_same p3
        obtain ⟨f1, f2⟩ := I2.offD p1 nf
        have I3 := I2.unbase p1 p3
        exact ⟨.ref p, w, rfl, d.nx _ _ _ _ (g1.trans g2) ((I3.setO (i := i) (.own e2 (r1.mono g2)) ⟨p1, f1⟩ fun k hk => (f2 k hk).elim).setV r2) h2⟩
      | .own b, h1 =>
        refine b.ok IB EB h1 fun c ws H2 F2 ys ρ2 g2 I2 e2' r2 a1 a2 a3 a4 h2 => ?_
        have e2 : H2 p = some (.lst vs) := I2.st.base p _ upd_same p3
        obtain ⟨f1, f2⟩ := I2.offD p1 nf
        have I3 := I2.unbase p1 p3
        have hcp : c ≠ p := fun z => by rw [z, upd_same] at a1; cases a1
        rw [upd_ne hcp] at a1
        refine ⟨.ref p, .ref c, rfl, d.nx _ _ _ _ (g1.trans g2) ((I3.setO (i := i) (.own e2 (r1.mono g2)) ⟨p1, f1⟩ fun k hk => (f2 k hk).elim).setO (i := j) (.own e2' r2) ⟨a1, a2⟩ fun k hk => ?_) h2⟩
        obtain ⟨s, hs, hw, ee⟩ := hk
        rw [getE_set] at hs ee
        by_cases hik : i = k
        · rw [if_pos hik] at ee
          split at ee
          · cases ee; exact absurd rfl hcp
          · cases ee
        · rw [if_neg hik] at hs ee
          exact (a4 k ⟨s, hs, hw, ee⟩).elim
end SS
/-! ### what is walked -/
section
variable {K : PySem.W.Frag} [Tbs K] {dk : Option Addr} {F : Addr → Prop} {H : Hp}
theorem walk_zipT {a b : Addr} {xs ys : List V} {n : Nat} (hn : n = min xs.length ys.length) : Walk (RZ.ItzT K a b) n (fun H => SqT K H a xs ∧ SqT K H b ys) (YPair (fun i => xs[i]?) (fun i => ys[i]?)) := by
  refine ⟨fun i H hi h => ?_, fun H h => ⟨xs, ys, h.1, h.2, by omega⟩, fun i H v H' hi h y => ?_⟩
  · exact ⟨xs, ys, xs[i]'(by omega), ys[i]'(by omega), h.1, h.2, List.getElem?_eq_getElem _, List.getElem?_eq_getElem _⟩
  · obtain ⟨T, x, y', hv, hT, hH, q1, q2⟩ := y
    exact ⟨T, x, y', hv, hT, hH, q1 xs h.1, q2 ys h.2⟩
end
end Tw
set_option Elab.async false
set_option linter.all false
set_option maxRecDepth 100000
set_option maxHeartbeats 4000000
/-! equal woods of a hundred levels -/
namespace Tw
open PySem PySem.Spec PyProof.Rows L2
section
variable {X : Cx} {k : Nat} {K : PySem.W.Frag} {H : Hp} {Q : VK}
end
end Tw
set_option Elab.async false
set_option linter.all false
set_option maxRecDepth 100000
set_option maxHeartbeats 4000000
/-! odd values, as the laws draw them -/
namespace Tw
open PySem PySem.Spec PyProof.Rows L2 TL
local macro_rules | `(tactic| walk_at "rd") => `(tactic| try simp only [o_op, o_un, o_var, o_c, o_cb, o_call, o_cons, o_nil, o_tup, o_lst, o_I0, o_I, o_int1, o_intb, o_abs, o_test, o_b, o_not, o_and, o_or, o_andV, o_orV, o_notV, o_ifE, o_isN, o_notN, o_eq, o_ne, o_seq, o_next, o_asg, o_name, o_sub, o_par, o_par3, o_drop, o_ret, o_retN, o_ifS, o_sl, o_noPart, o_part, o_bm, o_bm0, o_m0, o_m1, o_dget, o_dput, o_din, o_dnotin, o_listKeys, e_bl, e_int, e_str, e_some, e_two, e_three, o_for, o_lc, o_iList, o_iTup, o_iRng1, e_int1, e_ref, o_yes, o_wipe0, o_wipe1, o_disp, o_dnew, o_pairs0, o_pairs1, o_lock, o_keysM, o_gtup, o_gcons, o_gnil, o_rU, o_tru, o_revT, o_enumT, o_from, true_and, if_pos, List.getElem?_cons_zero, List.getElem?_cons_succ, List.set_cons_zero, List.set_cons_succ, List.append_nil])
/-- an item: a text, or no text -/
def Itm (K : PySem.W.Frag) (H : Hp) (x : V) : Prop := (∃ z : Str, x = .str z ∧ z.length ≤ 1000) ∨ Nt K H x
/-- a value: a text, something else, or a tuple of a few items -/
def Val (K : PySem.W.Frag) (H : Hp) (v : V) : Prop := (∃ z : Str, v = .str z ∧ z.length ≤ 1000) ∨ Oth K H v ∨ ∃ p vs, v = .ref p ∧ SqT K H p vs ∧ vs.length ≤ 30 ∧ ∀ x ∈ vs, Itm K H x
theorem Itm.kp {K : PySem.W.Frag} {H H' : Hp} (k : Kp H H') {v : V} (h : Itm K H v) : Itm K H' v := h.elim .inl fun h => .inr (h.kp k)
theorem Itm.dk {K : PySem.W.Frag} {H H' : Hp} {d : Addr} (k : Dk d H H') (hd : DeckAt H d) {v : V} (h : Itm K H v) : Itm K H' v := h.elim .inl fun h => .inr (h.dk k hd)
theorem Val.kp {K : PySem.W.Frag} {H H' : Hp} (k : Kp H H') {v : V} (h : Val K H v) : Val K H' v := by
  rcases h with h | h | ⟨p, vs, e, h, hl, hi⟩
  · exact .inl h
  · exact .inr (.inl (h.kp k))
  · exact .inr (.inr ⟨p, vs, e, Tk.kp k _ _ h, hl, fun x hx => (hi x hx).kp k⟩)
theorem Val.dk {K : PySem.W.Frag} {H H' : Hp} {d : Addr} (k : Dk d H H') (hd : DeckAt H d) {v : V} (h : Val K H v) : Val K H' v := by
  rcases h with h | h | ⟨p, vs, e, h, hl, hi⟩
  · exact .inl h
  · exact .inr (.inl (h.dk k hd))
  · exact .inr (.inr ⟨p, vs, e, k.tk hd _ _ h, hl, fun x hx => (hi x hx).dk k hd⟩)
theorem Val.itm {K : PySem.W.Frag} {H : Hp} {v : V} (h : Val K H v) : Itm K H v := by
  rcases h with h | h | ⟨p, vs, rfl, h, _⟩
  · exact .inl h
  · exact .inr (.oth h)
  · exact .inr (.tup h)
/-- a value whose items are values -/
def Val2 (K : PySem.W.Frag) (H : Hp) (v : V) : Prop := (∃ z : Str, v = .str z ∧ z.length ≤ 1000) ∨ Oth K H v ∨ ∃ p vs, v = .ref p ∧ SqT K H p vs ∧ vs.length ≤ 30 ∧ ∀ x ∈ vs, Val K H x
theorem Val2.kp {K : PySem.W.Frag} {H H' : Hp} (k : Kp H H') {v : V} (h : Val2 K H v) : Val2 K H' v := by
  rcases h with h | h | ⟨p, vs, e, h, hl, hi⟩
  · exact .inl h
  · exact .inr (.inl (h.kp k))
  · exact .inr (.inr ⟨p, vs, e, Tk.kp k _ _ h, hl, fun x hx => (hi x hx).kp k⟩)
theorem Val2.dk {K : PySem.W.Frag} {H H' : Hp} {d : Addr} (k : Dk d H H') (hd : DeckAt H d) {v : V} (h : Val2 K H v) : Val2 K H' v := by
  rcases h with h | h | ⟨p, vs, e, h, hl, hi⟩
  · exact .inl h
  · exact .inr (.inl (h.dk k hd))
  · exact .inr (.inr ⟨p, vs, e, k.tk hd _ _ h, hl, fun x hx => (hi x hx).dk k hd⟩)
theorem Val2.val {K : PySem.W.Frag} {H : Hp} {v : V} (h : Val2 K H v) : Val K H v := by
  rcases h with h | h | ⟨p, vs, e, h, hl, hi⟩
  · exact .inl h
  · exact .inr (.inl h)
  · exact .inr (.inr ⟨p, vs, e, h, hl, fun x hx => (hi x hx).itm⟩)
theorem Kp.rfl' {H : Hp} : Kp H H := fun _ _ h => h
section
variable {K : PySem.W.Frag} {P : Hp → V → Prop}
end
section
variable {K : PySem.W.Frag}
end
end Tw
set_option Elab.async false
set_option linter.all false
set_option maxRecDepth 100000
set_option maxHeartbeats 4000000
/-! what is a deed: the program's deed_error, the laws' own -/
namespace Tw
open PySem PySem.Spec PyProof.Rows L2 TL
local macro_rules | `(tactic| walk_at "rd") => `(tactic| try simp only [o_op, o_un, o_var, o_c, o_cb, o_call, o_cons, o_nil, o_tup, o_lst, o_I0, o_I, o_int1, o_intb, o_abs, o_test, o_b, o_not, o_and, o_or, o_andV, o_orV, o_notV, o_ifE, o_isN, o_notN, o_eq, o_ne, o_seq, o_next, o_asg, o_name, o_sub, o_par, o_par3, o_drop, o_ret, o_retN, o_ifS, o_sl, o_noPart, o_part, o_bm, o_bm0, o_m0, o_m1, o_dget, o_dput, o_din, o_dnotin, o_listKeys, e_bl, e_int, e_str, e_some, e_two, e_three, o_for, o_lc, o_iList, o_iTup, o_iRng1, e_int1, e_ref, o_yes, o_wipe0, o_wipe1, o_disp, o_dnew, o_pairs0, o_pairs1, o_lock, o_keysM, o_gtup, o_gcons, o_gnil, o_rU, o_tru, o_revT, o_enumT, o_from, true_and, if_pos, List.getElem?_cons_zero, List.getElem?_cons_succ, List.set_cons_zero, List.set_cons_succ, List.append_nil])
theorem alpha128 : ∀ c : Fin 128, (Unicode.isAlpha c.val && !(Unicode.isUpper c.val || Unicode.isTitle c.val)) = true → 97 ≤ c.val ∧ c.val ≤ 122 := by decide +kernel
theorem name_of_B {z : Str} (h : nameB z = true) : IsName z := by
  unfold nameB Txt.isascii Txt.isalpha Txt.islower at h
  simp only [Bool.and_eq_true, Bool.not_eq_true', decide_eq_true_eq, decide_eq_false_iff_not, ← Array.all_toList, ← Array.any_toList, List.all_eq_true, List.any_eq_false, List.any_eq_true, Bool.or_eq_true, not_or] at h
  obtain ⟨h8, ha, ⟨hne, hal⟩, _, hup⟩ := h
  refine ⟨by omega, by omega, fun c hc => ?_⟩
  have h1 := ha c hc
  have h2 := hal c hc
  have h3 := hup c hc
  have := alpha128 ⟨c, h1⟩ (by simp only [Bool.and_eq_true, Bool.not_eq_true', Bool.or_eq_false_iff]; exact ⟨h2, by simpa using h3.1, by simpa using h3.2⟩)
  exact this
theorem letters_mem (c : Nat) : c ∈ ("abcdefghijklmnopqrstuvwxyz" : Str).cps.toList ↔ 97 ≤ c ∧ c ≤ 122 := by
  have e : ("abcdefghijklmnopqrstuvwxyz" : Str).cps.toList = List.range' 97 26 := by decide +kernel
  rw [e, List.mem_range'_1]; omega
abbrev rInSign : R2 := fun x y H Q => ∃ (c : Nat) (z : Str), x = .str ⟨#[c]⟩ ∧ y = .str z ∧ Q (.bl (decide (c ∈ z.cps.toList))) H
abbrev rNotInSign : R2 := fun x y H Q => ∃ (c : Nat) (z : Str), x = .str ⟨#[c]⟩ ∧ y = .str z ∧ Q (.bl (!decide (c ∈ z.cps.toList))) H
/-- a name among values -/
def isNm : V → Bool
  | .str z => nameB z
  | _ => false
theorem Nt.isNm {K : PySem.W.Frag} {H : Hp} {v : V} (h : Nt K H v) : isNm v = false := by
  cases h with
  | oth h => cases h <;> rfl
  | tup h => rfl
def sp_l_is_name (K : PySem.W.Frag) : Sp := fun vs H Q _ => ∃ x, vs = [x] ∧ Itm K H x ∧ ∀ H', Kp H H' → Q (.bl (isNm x)) H'
def t_l_is_name (K : PySem.W.Frag) : TS :=
  (tSeq (tIfS (tOr (tNot (tB (tIsi K "str" (tVar 0)))) (tOr (tTest (tOp rEq (tVar 0) (tC (.str "")))) (tTest (tOp (rI0 fun i j => .bl (decide (j < i))) (tCB rLenStr (tCons (tVar 0) tNil)) (tC (.int 8)))))) (tRet (tC (.bl false))) tNext)
  (tRet (tOp (rEqE K false) (tLc (iStr (tVar 0)) (gName 1) (tTest (tOp rNotInSign (tVar 1) (tC (.str "abcdefghijklmnopqrstuvwxyz")))) (tVar 1) [1]) (tLst tNil))))
section
variable {K : PySem.W.Frag} {w : World} {F_FORMS : Addr}
theorem len_l_is_name (vs : List V) (H : Hp) (Q : VK) (E : XK) (h : sp_l_is_name K vs H Q E) : vs.length = 1 := by
  obtain ⟨_, rfl, _⟩ := h; rfl
/-- the signs that are no letters, up to a place -/
def badS (z : Str) (i : Nat) : List V := ((z.cps.toList.take i).filter fun c => !decide (97 ≤ c ∧ c ≤ 122)).map fun c => V.str ⟨#[c]⟩
theorem badS_all (z : Str) : (badS z z.cps.size).isEmpty = decide (∀ c ∈ z.cps.toList, 97 ≤ c ∧ c ≤ 122) := by
  unfold badS
  have e : z.cps.toList.take z.cps.size = z.cps.toList := by rw [List.take_of_length_le]; simp
  rw [e, Bool.eq_iff_iff, decide_eq_true_eq, List.isEmpty_iff, List.map_eq_nil_iff, List.filter_eq_nil_iff]
  simp
theorem nameB_iff (z : Str) : nameB z = true ↔ IsName z := ⟨name_of_B, nameB_of⟩
theorem not_name {z : Str} (h : ¬ IsName z) : nameB z = false := by
  cases e : nameB z with
  | false => rfl
  | true => exact absurd (name_of_B e) h
theorem badS_le (z : Str) (i : Nat) : (badS z i).length ≤ i := by
  unfold badS
  rw [List.length_map]
  have := List.length_filter_le (fun c => !decide (97 ≤ c ∧ c ≤ 122)) (z.cps.toList.take i)
  rw [List.length_take] at this
  omega
theorem badS_step {z : Str} {i c : Nat} (h : z.cps[i]? = some c) : badS z (i + 1) = badS z i ++ if decide (97 ≤ c ∧ c ≤ 122) then [] else [V.str ⟨#[c]⟩] := by
  have h2 : z.cps.toList[i]? = some c := by simpa using h
  unfold badS
  rw [List.take_add_one, h2, List.filter_append, List.map_append]
  congr 1
  by_cases e : 97 ≤ c ∧ c ≤ 122
  · simp [e]
  · simp [e]; omega
theorem pure_l_is_name (vs : List V) (H : Hp) (Q : VK) (E : XK) (h : sp_l_is_name K vs H Q E) : t_l_is_name K { nx := fun _ H' => Q .non H', rt := Q } (startN 2 vs) H := by
  obtain ⟨x, rfl, hx, q⟩ := h
  show t_l_is_name K _ [some x, none] H
  unfold t_l_is_name
  have hz := sizeLine_eq
  walk_at "rd"
  rcases hx with ⟨z, rfl, hl⟩ | hx
  · refine o_isiS ?_
    walk_at "rd"
    simp only [Bool.not_true, Bool.false_eq_true, if_false]
    refine ⟨rfl, ite2 (fun he => ?_) fun he => ?_⟩
    · have e := V.str.inj (of_decide_eq_true he)
      have : nameB z = false := by rw [e]; decide +kernel
      have q1 := q H Kp.rfl'
      rw [show isNm (V.str z) = nameB z from rfl, this] at q1
      exact q1
    refine ⟨z, rfl, by omega, ?_⟩
    walk_at "rd"
    refine ite2 (fun h8 => ?_) fun h8 => ?_
    · have h8 := of_decide_eq_true h8
      have : nameB z = false := not_name fun n => by have := n.eight; omega
      have q1 := q H Kp.rfl'
      rw [show isNm (V.str z) = nameB z from rfl, this] at q1
      exact q1
    have h8 : z.length ≤ 8 := by
      have : ¬ (8 : Int) < z.length := fun e => h8 (decide_eq_true e)
      omega
    have hne : ¬ z = ("" : Str) := fun e => he (decide_eq_true (by rw [e]))
    refine ⟨.str z, rfl, z, rfl, ?_⟩
    refine lb_walk walk_str (fun D i H2 => H D = none ∧ Kp H H2 ∧ H2 D = some (.lst (badS z i))) ?_ ?_ ?_ ?_
    · intro D hD
      exact ⟨hD, Kp.rfl'.new hD, by rw [upd_same]; rfl⟩
    · intro D i H2 hi _; trivial
    · rintro D i x H2 H3 hi ⟨hD, k2, h2⟩ ⟨rfl, c, hc, rfl⟩
      show gName 1 (.str ⟨#[c]⟩) _ _ _
      walk_at "rd"
      refine ⟨c, _, rfl, rfl, ?_⟩
      rw [show decide (c ∈ ("abcdefghijklmnopqrstuvwxyz" : Str).cps.toList) = decide (97 ≤ c ∧ c ≤ 122) from by rw [decide_eq_decide]; exact letters_mem c]
      rw [badS_step hc]
      have hb := badS_le z i
      refine ⟨_, rfl, ?_⟩
      cases hd : decide (97 ≤ c ∧ c ≤ 122) with
      | true =>
        simp only [Bool.not_true, Bool.false_eq_true, if_false, if_true, List.append_nil]
        exact ⟨hD, k2, h2⟩
      | false =>
        simp only [Bool.not_false, if_true, Bool.false_eq_true, if_false]
        have : z.cps.size = z.length := rfl
        exact ⟨_, h2, by omega, hD, fun b o e => by rw [upd_ne (ne_of_none e hD)]; exact k2 _ _ e, by rw [upd_same]⟩
    · rintro D H2 hD ⟨_, k2, h2⟩
      refine ⟨Nat.zero_le _, fun p hp => ?_⟩
      generalize hG : upd H2 p _ = H3
      obtain ⟨k3, e3⟩ := gen_new hp hG
      clear hG
      refine ⟨D, p, _, rfl, rfl, .inl ⟨SqL.of (k3 _ _ h2), SqL.of e3⟩, ?_⟩
      rw [badS_all]
      have e : (false != decide (∀ c ∈ z.cps.toList, 97 ≤ c ∧ c ≤ 122)) = isNm (V.str z) := by
        show _ = nameB z
        have h1 : 1 ≤ z.length := by
          rcases Nat.eq_zero_or_pos z.length with h0 | h0
          · exact absurd (str_ext (by
              have : z.cps.toList.length = 0 := by rw [← len_tl]; exact h0
              rw [List.eq_nil_of_length_eq_zero this]; rfl)) hne
          · exact h0
        rw [Bool.eq_iff_iff, nameB_iff]
        constructor
        · intro h
          exact ⟨h1, h8, by simpa using h⟩
        · intro h
          have := h.let_
          simpa using this
      rw [e]
      exact q H3 fun b o e => k3 _ _ (k2 _ _ e)
  · refine o_isiN hx.noStr ?_
    walk_at "rd"
    rw [hx.isNm] at q
    simpa using q H Kp.rfl'
end
end Tw
set_option Elab.async false
set_option linter.all false
set_option maxRecDepth 100000
set_option maxHeartbeats 4000000
/-! The plain layer: what is walked; texts; equality of deep data; what is shown. -/
namespace Tw
open PySem PySem.Spec PyProof.Rows L2
section
variable {K : PySem.W.Frag} [Tbs K] {dk : Option Addr} {F : Addr → Prop} {H : Hp}
theorem walk_pair {J : It} {n : Nat} {G : Hp → Prop} {fx fy : Nat → Option V} {xs ys : List PV} (w : Walk J n G (YPair fx fy)) (hn : n = min xs.length ys.length) (hG : ∀ F' H', Grow K F H F' H' → G H')
    (h1 : ∀ i v, i < n → fx i = some v → ∃ x, xs[i]? = some x ∧ Rep K dk F H v x) (h2 : ∀ i v, i < n → fy i = some v → ∃ y, ys[i]? = some y ∧ Rep K dk F H v y) : WalkOk K dk F H J ((xs.zip ys).map fun p => .tup [p.1, p.2]) := by
  have hl : ((xs.zip ys).map fun p => PV.tup [p.1, p.2]).length = n := by rw [List.length_map, List.length_zip, hn]
  refine ⟨G, YPair fx fy, by rw [hl]; exact w, hG, ?_⟩
  rintro i F' H' v H'' hi g ⟨T, x, y, rfl, hT, rfl, e1, e2⟩
  rw [hl] at hi
  obtain ⟨px, hx, rx⟩ := h1 i x hi e1
  obtain ⟨py, hy, ry⟩ := h2 i y hi e2
  refine ⟨.inr ⟨T, _, hT, rfl⟩, .tup [px, py], ?_, .tup (SqT.of upd_same) (.cons ((rx.mono g).mono (Grow.new hT)) (.one ((ry.mono g).mono (Grow.new hT))))⟩
  rw [List.getElem?_map, show (xs.zip ys)[i]? = some (px, py) from by rw [List.getElem?_zip_eq_some]; exact ⟨hx, hy⟩]
  rfl
end
/-- what zip yields -/
abbrev zipP (xs ys : List PV) : List PV := (xs.zip ys).map fun p => .tup [p.1, p.2]
/-- what enumerate yields -/
abbrev enumP (xs : List PV) : List PV := zipP ((List.range xs.length).map fun i => .int (i : Nat)) xs
namespace SI
variable {K : PySem.W.Frag} [Tbs K]
/-- zip of two tuples, of two lists -/
def zipA (a b : SE K) : SI K where
  rd := fun E => RZ.iZipA K (tCons (a.rd E) (tCons (b.rd E) tNil))
  wp := fun PE ρ P => a.wp PE ρ fun x ρ1 => b.wp PE ρ1 fun y ρ2 => ∃ xs ys, ((x = .lst xs ∧ y = .lst ys) ∨ (x = .tup xs ∧ y = .tup ys)) ∧ P (zipP xs ys) ρ2
  ok := by
    intro dk F0 H0 F σ H ρ E PE P R I e h q
    refine a.ok I e h fun v H1 F1 x ρ1 g1 I1 r1 h1 => ?_
    refine b.ok I1 (e.grow g1) h1 fun w H2 F2 y ρ2 g2 I2 r2 h2 => ?_
    obtain ⟨xs, ys, hxy, h2⟩ := h2
    have r1' := r1.mono g2
    rcases hxy with ⟨rfl, rfl⟩ | ⟨rfl, rfl⟩
    · cases r1' with
      | lst f1 s1 l1 =>
        cases r2 with
        | lst f2 s2 l2 =>
          refine ⟨_, _, _, _, rfl, .inl ⟨SqL.of s1, SqL.of s2, q _ _ _ _ _ (g1.trans g2) I2 ?_ h2⟩⟩
          exact walk_pair (walk_zip rfl) (by rw [l1.len, l2.len]) (fun F' H' g => ⟨SqL.of (g.keep _ _ f1 s1), SqL.of (g.keep _ _ f2 s2)⟩) (fun i v _ e => l1.get e) fun i v _ e => l2.get e
    · cases r1' with
      | tup s1 l1 =>
        cases r2 with
        | tup s2 l2 =>
          refine ⟨_, _, _, _, rfl, .inr ⟨s1, s2, q _ _ _ _ _ (g1.trans g2) I2 ?_ h2⟩⟩
          exact walk_pair (walk_zipT rfl) (by rw [l1.len, l2.len]) (fun F' H' g => ⟨g.tup _ _ s1, g.tup _ _ s2⟩) (fun i v _ e => l1.get e) fun i v _ e => l2.get e
theorem enum_at {K : PySem.W.Frag} [Tbs K] {dk : Option Addr} {F : Addr → Prop} {H : Hp} {n : Nat} (i : Nat) (v : V) (hi : i < n) (e : (some (V.int (i : Nat)) : Option V) = some v) : ∃ x, ((List.range n).map fun i => PV.int (i : Nat))[i]? = some x ∧ Rep K dk F H v x := by
  cases e
  exact ⟨_, by rw [List.getElem?_map, List.getElem?_range hi]; rfl, .int _⟩
def enumL (a : SE K) : SI K where
  rd := fun E => iEnum K (tCons (a.rd E) tNil)
  wp := fun PE ρ P => a.wp PE ρ fun x ρ1 => ∃ xs, x = .lst xs ∧ P (enumP xs) ρ1
  ok := by
    intro dk F0 H0 F σ H ρ E PE P R I e h q
    refine a.ok I e h fun v H1 F1 x ρ1 g1 I1 r1 h1 => ?_
    obtain ⟨xs, rfl, h1⟩ := h1
    cases r1 with
    | lst f s l =>
      refine ⟨_, _, rfl, SqL.of s, q _ _ _ _ _ g1 I1 ?_ h1⟩
      exact walk_pair walk_enum (by simp [l.len]) (fun F' H' g => SqL.of (g.keep _ _ f s)) (fun i v hi e => enum_at i v (by rw [← l.len]; exact hi) e) fun i v _ e => l.get e
def enumT (a : SE K) : SI K where
  rd := fun E => iEnumT K (tCons (a.rd E) tNil)
  wp := fun PE ρ P => a.wp PE ρ fun x ρ1 => ∃ xs, x = .tup xs ∧ P (enumP xs) ρ1
  ok := by
    intro dk F0 H0 F σ H ρ E PE P R I e h q
    refine a.ok I e h fun v H1 F1 x ρ1 g1 I1 r1 h1 => ?_
    obtain ⟨xs, rfl, h1⟩ := h1
    cases r1 with
    | tup s l =>
      refine ⟨_, _, rfl, s, q _ _ _ _ _ g1 I1 ?_ h1⟩
      exact walk_pair walk_enumT (by simp [l.len]) (fun F' H' g => g.tup _ _ s) (fun i v hi e => enum_at i v (by rw [← l.len]; exact hi) e) fun i v _ e => l.get e
theorem walkR {K : PySem.W.Frag} [Tbs K] {dk : Option Addr} {F : Addr → Prop} {H : Hp} {lo : Int} {n : Nat} : WalkOk K dk F H (Itr lo n) ((List.range n).map fun i => .int (lo + (i : Nat))) := by
  refine ⟨fun _ => True, YFn fun i => .int (lo + i), by simp only [List.length_map, List.length_range]; exact walk_range, fun _ _ _ => trivial, ?_⟩
  rintro i F' H' v H'' hi g ⟨rfl, rfl⟩
  simp only [List.length_map, List.length_range] at hi
  exact ⟨.inl rfl, _, by rw [List.getElem?_map, List.getElem?_range hi]; rfl, .int _⟩
/-- range(n) -/
def rng1 (a : SA K) : SI K where
  rd := fun E => iRng1 (a.rd E)
  wp := fun PE ρ P => a.wp PE ρ fun xs ρ1 => ∃ j : Int, xs = [.int j] ∧ -(2 ^ 62) ≤ j ∧ j < 2 ^ 62 ∧ P ((List.range j.toNat).map fun i => .int (i : Nat)) ρ1
  ok := by
    intro dk F0 H0 F σ H ρ E PE P R I e h q
    refine a.ok I e h fun vs H1 F1 xs ρ1 g1 I1 r1 h1 => ?_
    obtain ⟨j, rfl, j1, j2, h1⟩ := h1
    cases r1 with
    | cons a b =>
      cases a; cases b
      refine ⟨j, rfl, j1, j2, q _ _ _ _ _ g1 I1 ?_ h1⟩
      have := @walkR K _ dk F1 H1 0 j.toNat
      simpa using this
/-- range(m, n) -/
def rng2 (a : SA K) : SI K where
  rd := fun E => iRng2 (a.rd E)
  wp := fun PE ρ P => a.wp PE ρ fun xs ρ1 => ∃ i j : Int, xs = [.int i, .int j] ∧ -(2 ^ 62) ≤ i ∧ i < 2 ^ 62 ∧ -(2 ^ 62) ≤ j ∧ j < 2 ^ 62 ∧ P ((List.range (j - i).toNat).map fun k => .int (i + (k : Nat))) ρ1
  ok := by
    intro dk F0 H0 F σ H ρ E PE P R I e h q
    refine a.ok I e h fun vs H1 F1 xs ρ1 g1 I1 r1 h1 => ?_
    obtain ⟨i, j, rfl, i1, i2, j1, j2, h1⟩ := h1
    cases r1 with
    | cons a b =>
      cases b with
      | cons c d =>
        cases a; cases c; cases d
        exact ⟨i, j, rfl, ⟨i1, i2, j1, j2⟩, q _ _ _ _ _ g1 I1 walkR h1⟩
/-- the signs of a text -/
def str (a : SE K) : SI K where
  rd := fun E => iStr (a.rd E)
  wp := fun PE ρ P => a.wp PE ρ fun x ρ1 => ∃ z : Str, x = .str z ∧ P (z.cps.toList.map fun c => .str ⟨#[c]⟩) ρ1
  ok := by
    intro dk F0 H0 F σ H ρ E PE P R I e h q
    refine a.ok I e h fun v H1 F1 x ρ1 g1 I1 r1 h1 => ?_
    obtain ⟨z, rfl, h1⟩ := h1
    cases r1
    refine ⟨z, rfl, q _ _ _ _ _ g1 I1 ⟨fun _ => True, fun i H v H' => H' = H ∧ ∃ c, z.cps[i]? = some c ∧ v = .str ⟨#[c]⟩, by simp only [List.length_map, Array.length_toList]; exact walk_str, fun _ _ _ => trivial, ?_⟩ h1⟩
    rintro i F' H' v H'' hi g ⟨rfl, c, hc, rfl⟩
    exact ⟨.inl rfl, _, by rw [List.getElem?_map, Array.getElem?_toList, hc]; rfl, .str _⟩
end SI
/-! ### texts -/
namespace SU
variable {K : PySem.W.Frag} [Tbs K]
def neg : SU K where
  rd := rU fun i => .int (-i)
  wp := fun x P => ∃ i, x = .int i ∧ P (.int (-i))
  ok := by
    rintro dk F0 H0 F σ H ρ v x P Q I r ⟨i, rfl, h⟩ q
    cases r
    exact ⟨i, rfl, q _ _ _ _ Grow.refl I (.int _) h⟩
end SU
/-- what a list of parts yields -/
def wpJs {K : PySem.W.Frag} [Tbs K] (PE : PEK) : List (SE K) → Str → Env → (Str → Env → Prop) → Prop
  | [], acc, ρ, P => P acc ρ
  | t :: ts, acc, ρ, P => t.wp PE ρ fun x ρ1 => ∃ y : Str, x = .str y ∧ (acc ++ y).length ≤ sizeLine ∧ wpJs PE ts (acc ++ y) ρ1 P
namespace SE
variable {K : PySem.W.Frag} [Tbs K]
def fmt (a : SE K) : SE K where
  rd := fun E => tFmt (a.rd E)
  wp := fun PE ρ P => a.wp PE ρ fun x ρ1 => (∃ y : Str, x = .str y ∧ y.length ≤ sizeLine ∧ P (.str y) ρ1) ∨ ∃ i : Int, x = .int i ∧ i.natAbs.log2 < 1920 ∧ P (.str (toString i)) ρ1
  ok := by
    intro dk F0 H0 F σ H ρ E PE P Q I e h q
    refine a.ok I e h fun v H1 F1 x ρ1 g1 I1 r1 h1 => ?_
    rcases h1 with ⟨y, rfl, hy, h1⟩ | ⟨i, rfl, hi, h1⟩
    · cases r1; exact .inl ⟨y, rfl, hy, q _ _ _ _ _ g1 I1 (.str _) h1⟩
    · cases r1; exact .inr ⟨i, rfl, hi, q _ _ _ _ _ g1 I1 (.str _) h1⟩
theorem js_ok {dk : Option Addr} {F0 : Addr → Prop} {H0 : Hp} {σ : L2.St} {E : EK} {PE : PEK} {P : Str → Env → Prop} {Q : Str → Hp → Prop} : ∀ (ts : List (SE K)) {acc : Str} {F : Addr → Prop} {H : Hp} {ρ : Env}, PInv K dk F0 H0 F σ H ρ → ErrS K dk F0 H0 F H E PE → wpJs PE ts acc ρ P →
    (∀ y H' F' ρ', Grow K F H F' H' → PInv K dk F0 H0 F' σ H' ρ' → P y ρ' → Q y H') → tJs (ts.map fun t => t.rd E) acc σ H Q
  | [], acc, F, H, ρ, I, e, h, q => q _ _ _ _ Grow.refl I h
  | t :: ts, acc, F, H, ρ, I, e, h, q => by
    refine t.ok I e h fun v H1 F1 x ρ1 g1 I1 r1 h1 => ?_
    obtain ⟨y, rfl, hz, h1⟩ := h1
    cases r1
    exact ⟨y, rfl, hz, js_ok ts I1 (e.grow g1) h1 fun y H' F' ρ' g => q y H' F' ρ' (g1.trans g)⟩
def joined (ts : List (SE K)) : SE K where
  rd := fun E => tJoined (ts.map fun t => t.rd E)
  wp := fun PE ρ P => wpJs PE ts Str.empty ρ fun y ρ1 => P (.str y) ρ1
  ok := fun I e h q => js_ok ts I e h fun y H' F' ρ' g I' h' => q _ _ _ _ _ g I' (.str _) h'
/-- "".join(xs) -/
def join (a b : SE K) : SE K where
  rd := fun E => tM1 (rJoin K) (a.rd E) (b.rd E)
  wp := fun PE ρ P => a.wp PE ρ fun x ρ1 => ∃ z : Str, x = .str z ∧ b.wp PE ρ1 fun y ρ2 => ∃ ys : List Str, (y = .lst (ys.map .str) ∨ y = .tup (ys.map .str)) ∧ (ys.map (·.length)).sum + ys.length * z.length ≤ 16777216 ∧ P (.str (Txt.join z ys)) ρ2
  ok := by
    intro dk F0 H0 F σ H ρ E PE P Q I e h q
    refine a.ok I e h fun v H1 F1 x ρ1 g1 I1 r1 h1 => ?_
    obtain ⟨z, rfl, h1⟩ := h1
    cases r1
    refine ⟨⟨z, rfl⟩, b.ok I1 (e.grow g1) h1 fun w H2 F2 y ρ2 g2 I2 r2 h2 => ?_⟩
    obtain ⟨ys, hy, hz, h2⟩ := h2
    rcases hy with rfl | rfl
    · cases r2 with
      | lst f s l => have := l.strs; subst this; exact ⟨z, _, ys, rfl, rfl, .inl (SqL.of s), hz, q _ _ _ _ _ (g1.trans g2) I2 (.str _) h2⟩
    · cases r2 with
      | tup s l => have := l.strs; subst this; exact ⟨z, _, ys, rfl, rfl, .inr s, hz, q _ _ _ _ _ (g1.trans g2) I2 (.str _) h2⟩
def txtB (f : Str → Bool) (a : SE K) : SE K where
  rd := fun E => tM0 (rTxtB f) (a.rd E)
  wp := fun PE ρ P => a.wp PE ρ fun x ρ1 => ∃ z : Str, x = .str z ∧ P (.bl (f z)) ρ1
  ok := by
    intro dk F0 H0 F σ H ρ E PE P Q I e h q
    refine a.ok I e h fun v H1 F1 x ρ1 g1 I1 r1 h1 => ?_
    obtain ⟨z, rfl, h1⟩ := h1
    cases r1
    exact ⟨⟨z, rfl⟩, z, rfl, rfl, trivial, q _ _ _ _ _ g1 I1 (.bl _) h1⟩
/-- len(set(t)), t a tuple of texts -/
def lenSetT (a : SE K) : SE K where
  rd := fun E => tLenSetT K (a.rd E)
  wp := fun PE ρ P => a.wp PE ρ fun x ρ1 => ∃ zs : List Str, x = .tup (zs.map .str) ∧ zs.length < 4000 ∧ P (.int (dcnt zs zs.length : Nat)) ρ1
  ok := by
    intro dk F0 H0 F σ H ρ E PE P Q I e h q
    refine a.ok I e h fun v H1 F1 x ρ1 g1 I1 r1 h1 => ?_
    obtain ⟨zs, rfl, hz, h1⟩ := h1
    cases r1 with
    | tup s l => have := l.strs; subst this; exact ⟨_, zs, rfl, s, hz, q _ _ _ _ _ g1 I1 (.int _) h1⟩
/-- t[::-1] -/
def revT (a : SE K) : SE K where
  rd := fun E => tRevT K (a.rd E)
  wp := fun PE ρ P => a.wp PE ρ fun x ρ1 => ∃ xs, x = .tup xs ∧ P (.tup xs.reverse) ρ1
  ok := by
    intro dk F0 H0 F σ H ρ E PE P Q I e h q
    refine a.ok I e h fun v H1 F1 x ρ1 g1 I1 r1 h1 => ?_
    obtain ⟨xs, rfl, h1⟩ := h1
    cases r1 with
    | tup s l => exact ⟨_, _, rfl, s, fun p hp => q _ _ _ _ _ (g1.trans (Grow.new hp)) (I1.new hp) (.tup (SqT.of upd_same) (l.rev.mono (Grow.new hp))) h1⟩
/-- a < b < c -/
def chain (o o' : SO K) (a b c : SE K) : SE K where
  rd := fun E => tChain o.rd o'.rd (a.rd E) (b.rd E) (c.rd E)
  wp := fun PE ρ P => a.wp PE ρ fun x ρ1 => b.wp PE ρ1 fun y ρ2 => o.wp x y fun z => ∃ k, z = .bl k ∧ if k = true then c.wp PE ρ2 fun w ρ3 => o'.wp y w fun u => P u ρ3 else P (.bl false) ρ2
  ok := by
    intro dk F0 H0 F σ H ρ E PE P Q I e h q
    refine a.ok I e h fun v H1 F1 x ρ1 g1 I1 r1 h1 => ?_
    refine b.ok I1 (e.grow g1) h1 fun w H2 F2 y ρ2 g2 I2 r2 h2 => ?_
    refine o.ok I2 (r1.mono g2) r2 h2 fun z H3 F3 u g3 I3 r3 h3 => ?_
    obtain ⟨k, rfl, h3⟩ := h3
    cases r3
    have g13 := (g1.trans g2).trans g3
    refine ⟨k, rfl, ?_⟩
    cases k with
    | false => exact q _ _ _ _ _ g13 I3 (.bl _) h3
    | true =>
      refine c.ok I3 (e.grow g13) h3 fun s H4 F4 t ρ4 g4 I4 r4 h4 => ?_
      exact o'.ok I4 ((r2.mono g3).mono g4) r4 h4 fun z H5 F5 u g5 I5 r5 h5 => q _ _ _ _ _ ((g13.trans g4).trans g5) I5 r5 h5
end SE
namespace SO
variable {K : PySem.W.Frag} [Tbs K]
/-- a sign in a text -/
def inSign (neg : Bool) : SO K where
  rd := if neg then rNotInSign else rInSign
  wp := fun x y P => ∃ (c : Nat) (z : Str), x = .str ⟨#[c]⟩ ∧ y = .str z ∧ P (.bl (neg != decide (c ∈ z.cps.toList)))
  ok := by
    rintro dk F0 H0 F σ H ρ v w x y P Q I r1 r2 ⟨c, z, rfl, rfl, h⟩ q
    cases r1; cases r2
    cases neg with
    | true => exact ⟨c, z, rfl, rfl, by have := q _ _ _ _ Grow.refl I (.bl _) h; simpa using this⟩
    | false => exact ⟨c, z, rfl, rfl, by have := q _ _ _ _ Grow.refl I (.bl _) h; simpa using this⟩
/-- t == (), xs == [] (a list or tuple against an empty display) -/
def eqE (neg : Bool) : SO K where
  rd := rEqE K neg
  wp := fun x y P => ∃ xs, ((x = .lst xs ∧ y = .lst []) ∨ (neg = false ∧ x = .tup xs ∧ y = .tup [])) ∧ P (.bl (neg != xs.isEmpty))
  ok := by
    rintro dk F0 H0 F σ H ρ v w x y P Q I r1 r2 ⟨xs, hx, h⟩ q
    rcases hx with ⟨rfl, rfl⟩ | ⟨hn, rfl, rfl⟩
    · cases r1 with
      | lst f1 s1 l1 =>
        cases r2 with
        | lst f2 s2 l2 => cases l2; exact ⟨_, _, _, rfl, rfl, .inl ⟨SqL.of s1, SqL.of s2⟩, by rw [l1.emp]; exact q _ _ _ _ Grow.refl I (.bl _) h⟩
    · cases r1 with
      | tup s1 l1 =>
        cases r2 with
        | tup s2 l2 => cases l2; exact ⟨_, _, _, rfl, rfl, .inr ⟨hn, s1, s2⟩, by rw [l1.emp]; exact q _ _ _ _ Grow.refl I (.bl _) h⟩
end SO
namespace SB
variable {K : PySem.W.Frag} [Tbs K]
/-- repr(x) of a list or tuple -/
def repr : SB K where
  rd := rRepr K
  wp := fun xs P => ∃ x ys, xs = [x] ∧ (x = .lst ys ∨ x = .tup ys) ∧ x.plain = true ∧ x.pd.showable = true ∧ x.pd.hasDict = false ∧ x.pd.depth ≤ 100 ∧ x.pd.shown.length ≤ sizeLine ∧ P (.str x.pd.shown)
  ok := by
    rintro dk F0 H0 F σ H ρ vs xs P Q I r ⟨x, ys, rfl, hx, a, b, c, d, e, h⟩ q
    cases r with
    | cons r1 r2 =>
      cases r2
      rcases hx with rfl | rfl
      · cases r1 with
        | lst f s l => exact ⟨_, _, rfl, Rep.dp (.lst f s l) a, b, c, d, e, q _ _ _ _ Grow.refl I (.str _) h⟩
      · cases r1 with
        | tup s l => exact ⟨_, _, rfl, Rep.dp (.tup s l) a, b, c, d, e, q _ _ _ _ Grow.refl I (.str _) h⟩
end SB
end Tw
set_option Elab.async false
set_option linter.all false
set_option maxRecDepth 100000
set_option maxHeartbeats 4000000
/-! a lambda is made: all but the tables of code objects stays -/
namespace Tw
open PySem PySem.Spec PyProof.Rows L2
section
variable {K : PySem.W.Frag} [Tbs K] {dk : Option Addr} {F0 F : Addr → Prop} {H0 H H1 : Hp} {σ : L2.St} {ρ : Env}
theorem TbOk.ext (t : TbOk K F H) (fa : ∀ b, F b → ∃ o, H b = some o) (e : LamX.ExtN H H1) (u : LamX.Tabs (Tbs.T K) H1) : TbOk K F H1 :=
  ⟨u, fun b ps hb q => by
    obtain ⟨o, ho⟩ := fa b hb
    have := e b o ho fun ps z => t.fnt b ps hb (by rw [ho, z])
    rw [q] at this
    exact t.fnt b ps hb (by rw [ho, ← this])⟩
theorem PInv.extN (I : PInv K dk F0 H0 F σ H ρ) (e : LamX.ExtN H H1) (u : LamX.Tabs (Tbs.T K) H1) : PInv K dk F0 H0 F σ H1 ρ ∧ Grow K F H F H1 := by
  have kept : ∀ b o, F b → H b = some o → H1 b = some o := fun b o hb ho => e b o ho fun ps z => I.st.tb.fnt b ps hb (by rw [ho, z])
  have g : Grow K F H F H1 := by
    refine ⟨fun _ h => h, fun a xs q => ?_, fun b o hb ho => kept b o hb ho⟩
    rcases q with q | q
    · rcases q with q | ⟨o, q⟩
      · exact .inl (.inl (e _ _ q fun ps z => by cases z))
      · exact .inl (.inr ⟨o, e _ _ q fun ps z => by cases z⟩)
    · exact .inr q
  refine ⟨⟨⟨fun b o h n => e b o (I.st.base b o h n) fun ps z => I.st.h0 b ps (by rw [h, z]), I.st.fnew, fun b h => ?_, I.st.f0, I.st.fdk, fun d h => ?_, I.st.deck0, I.st.h0, I.st.tb.ext I.st.fall e u⟩, I.len, fun i s o hs ho => (I.sl i s o hs ho).mono g fun a w ee => ?_, I.dis, I.fresh⟩, g⟩
  · obtain ⟨o, ho⟩ := I.st.fall b h
    exact ⟨o, kept b o h ho⟩
  · obtain ⟨x, y, z, q⟩ := I.st.deck d h
    exact ⟨x, y, z, e _ _ q fun ps z => by cases z⟩
  · obtain ⟨v, q, qn⟩ := I.ownNt ⟨s, hs, w, by rw [ho, ee]⟩
    rw [q]; exact e _ _ q qn
/-- a frame of which nothing is known -/
theorem PInv.bare {τ : L2.St} (s : St0 K dk F0 H0 F H) : PInv K dk F0 H0 F τ H (List.replicate τ.length .no) := by
  have no : ∀ j b, ¬ OwnAt τ (List.replicate τ.length .no) j b := by
    rintro j b ⟨t, hs, hw, _⟩
    have := List.mem_of_getElem? hs
    rw [List.mem_replicate] at this
    rw [this.2] at hw; cases hw
  refine ⟨s, by rw [List.length_replicate], fun j t o hs ho => ?_, fun j k b h _ => (no j b h).elim, fun j b h => (no j b h).elim⟩
  have := List.mem_of_getElem? hs
  rw [List.mem_replicate] at this
  rw [this.2]; exact .no _
/-- what a lambda sees of its maker's slots: the own lists and dicts are out of its sight -/
def seen : Sl → Sl
  | .val x => .val x
  | _ => .no
/-- the maker's slots, seen by a lambda, entered anew at H -/
theorem PInv.lam (I : PInv K dk F0 H0 F σ H ρ) : PInv K dk F (hide H) F σ H (ρ.map seen) := by
  have no : ∀ j b, ¬ OwnAt σ (ρ.map seen) j b := by
    rintro j b ⟨t, hs, hw, _⟩
    rw [List.getElem?_map, Option.map_eq_some_iff] at hs
    obtain ⟨s, _, rfl⟩ := hs
    cases s <;> cases hw
  refine ⟨I.st.self, by rw [List.length_map]; exact I.len, fun j t o hs ho => ?_, fun j k b h _ => (no j b h).elim, fun j b h => (no j b h).elim⟩
  rw [List.getElem?_map, Option.map_eq_some_iff] at hs
  obtain ⟨s, h1, rfl⟩ := hs
  have h2 := I.sl j s o h1 ho
  cases h2 with
  | val r => exact .val r
  | no => exact .no _
  | own _ _ => exact .no _
  | ownD _ _ => exact .no _
  | err _ => exact .no _
end
end Tw
set_option Elab.async false
set_option linter.all false
set_option maxRecDepth 100000
set_option maxHeartbeats 4000000
/-! f(lambda: body), f a def of the form: try: work() / except C as e: .. / rest -/
namespace Tw
open PySem PySem.Spec PyProof.Rows L2 TL
section
variable (K : PySem.W.Frag) [Tbs K]
/-- what the def makes of what it got -/
def TTtry (C : Addr) (i n : Nat) (cl : Addr → Value → Option Addr → SS K) (rest : SS K) : (XK → Hp → VK → Prop) → Hp → VK → Prop := fun tl H Q =>
  ∀ f : Addr, tl (fun cls d H' => ∀ τ : L2.St, τ.length = n → wAs K (.ref C) i (fun a cls d => (cl a cls d).rd fun _ => E0) (fun _ _ _ _ => False) { nx := fun σ' H' => rest.rd (fun _ => E0) { nx := fun _ H' => Q .non H', rt := Q } σ' H', rt := Q } cls d τ H') H
    fun _ H' => rest.rd (fun _ => E0) { nx := fun _ H' => Q .non H', rt := Q } (startN n [.ref f]) H'
end
namespace SE
variable {K : PySem.W.Frag} [Tbs K]
def lamT (C : Addr) (i n : Nat) (cl : Addr → Value → Option Addr → SS K) (rest : SS K) (body : SE K) : SE K where
  rd := fun _ => LamX.tLam (Tbs.T K) (TTtry K C i n cl rest) (fun E => body.rd fun _ => E)
  wp := fun _ ρ P => 1 ≤ n ∧ body.wp (fun _ er => ∃ b, PySem.W.exmOne K (.ref er.1) (.ref C) = some b ∧ (b = true → ∀ a d, (cl a (.ref er.1) d).wp (fun _ _ => False) { nx := fun ρ2 => rest.wp (fun _ _ => False) { nx := fun _ => P .non ρ, rt := fun x => P x ρ } (ρ2.set i .no), rt := fun x => P x ρ } ((List.replicate n .no).set i (.err a d er))) ∧ (b = false → False))
    (ρ.map seen) fun _ _ => rest.wp (fun _ _ => False) { nx := fun _ => P .non ρ, rt := fun x => P x ρ } (List.replicate n .no)
  ok := by
    intro dk F0 H0 F σ H ρ E PE P Q I e h q
    obtain ⟨hn, h⟩ := h
    refine ⟨I.st.tb.tabs, fun H1 eN T1 f => ?_⟩
    obtain ⟨I1, g1⟩ := I.extN eN T1
    have hlen : (startN n [.ref f]).length = n := by simp [startN]; omega
    have back : ∀ v H'' F'' x, St0 K dk F (hide H1) F'' H'' → Rep K dk F'' H'' v x → P x ρ → Q v H'' := fun v H'' F'' x s r p => by
      obtain ⟨I2, g2⟩ := I1.call s
      exact q v H'' F'' x ρ (g1.trans g2) I2 r p
    have frame : ∀ F' H' (τ : L2.St), τ.length = n → St0 K dk F (hide H1) F' H' → PInv K dk F (hide H1) F' τ H' (List.replicate n .no) := fun F' H' τ hlen s => by
      have := PInv.bare (τ := τ) s
      rw [hlen] at this; exact this
    have after : ∀ F' H' τ ρ', PInv K dk F (hide H1) F' τ H' ρ' → rest.wp (fun _ _ => False) { nx := fun _ => P .non ρ, rt := fun x => P x ρ } ρ' → rest.rd (fun _ => E0) { nx := fun _ H' => Q .non H', rt := Q } τ H' := fun F' H' τ ρ' I' hw =>
      rest.ok (PE := fun _ _ => False) (PD := { nx := fun _ => P .non ρ, rt := fun x => P x ρ }) I' (fun _ _ _ _ _ _ _ _ _ _ _ _ z => z.elim) ⟨fun F2 σ2 H2 ρ2 g2 I2 p => back .non H2 F2 .non I2.st .non p, fun F2 H2 v x s r p => back v H2 F2 x s r p, fun _ _ _ _ _ _ z => z.elim, fun _ _ _ _ _ _ z => z.elim⟩ hw
    refine body.ok I1.lam (fun F' σ' H' ρ' C' d' fv fs g I' rf ed p => ?_) h fun v H' F' x ρ' g I' r hp => after F' H' _ _ (frame F' H' _ hlen I'.st) hp
    intro τ hτ
    obtain ⟨b, hb, h1, h2⟩ := p
    refine ⟨b, hb, fun hb1 a ha => ?_, fun hb2 => (h2 hb2).elim⟩
    obtain ⟨F2, I2, g2, ea⟩ := (frame F' H' τ hτ I'.st).keepE rf ed
    refine (cl a (.ref C') d').ok (PE := fun _ _ => False) (I2.setE (i := i) (a := a) (er := (C', fs)) ea) (fun _ _ _ _ _ _ _ _ _ _ _ _ z => z.elim) ⟨?_, ?_, ?_, ?_⟩ (h1 hb1 a d')
    · exact fun F3 σ3 H3 ρ3 g3 I3 h3 => after F3 H3 _ _ I3.setN h3
    · exact fun F3 H3 v x s r p => back v H3 F3 x s r p
    · exact fun _ _ _ _ _ _ z => z.elim
    · exact fun _ _ _ _ _ _ z => z.elim
end SE
section
variable (K : PySem.W.Frag) [Tbs K]
end
namespace SE
variable {K : PySem.W.Frag} [Tbs K]
end SE
end Tw
set_option Elab.async false
set_option linter.all false
set_option maxRecDepth 100000
set_option maxHeartbeats 4000000
/-! a pick of a list, a tuple or a text; the laws' menus of names -/
namespace Tw
open PySem PySem.Spec PyProof.Rows L2 TL
local macro_rules | `(tactic| walk_at "rd") => `(tactic| try simp only [o_op, o_un, o_var, o_c, o_cb, o_call, o_cons, o_nil, o_tup, o_lst, o_I0, o_I, o_int1, o_intb, o_abs, o_test, o_b, o_not, o_and, o_or, o_andV, o_orV, o_notV, o_ifE, o_isN, o_notN, o_eq, o_ne, o_seq, o_next, o_asg, o_name, o_sub, o_par, o_par3, o_drop, o_ret, o_retN, o_ifS, o_sl, o_noPart, o_part, o_bm, o_bm0, o_m0, o_m1, o_dget, o_dput, o_din, o_dnotin, o_listKeys, e_bl, e_int, e_str, e_some, e_two, e_three, o_for, o_lc, o_iList, o_iTup, o_iRng1, e_int1, e_ref, o_yes, o_wipe0, o_wipe1, o_disp, o_dnew, o_pairs0, o_pairs1, o_lock, o_keysM, o_gtup, o_gcons, o_gnil, o_rU, o_tru, o_revT, o_enumT, o_from, true_and, if_pos, List.getElem?_cons_zero, List.getElem?_cons_succ, List.set_cons_zero, List.set_cons_succ, List.append_nil])
/-! ### one rule or the other -/
section
variable {K : PySem.W.Frag}
def menus : List (List Str) := [["a", "b", "c", "d"], ["x", "xa", "ab", "b"], ["aaaaaaaa", "aaaaaaab", "z", "zz"], ["top", "menu", "it", "d"]]
end
end Tw
set_option Elab.async false
set_option linter.all false
set_option maxRecDepth 100000
set_option maxHeartbeats 4000000
/-! the laws' mixing of a row -/
namespace Tw
open PySem PySem.Spec PyProof.Rows L2 TL
local macro_rules | `(tactic| walk_at "rd") => `(tactic| try simp only [o_op, o_un, o_var, o_c, o_cb, o_call, o_cons, o_nil, o_tup, o_lst, o_I0, o_I, o_int1, o_intb, o_abs, o_test, o_b, o_not, o_and, o_or, o_andV, o_orV, o_notV, o_ifE, o_isN, o_notN, o_eq, o_ne, o_seq, o_next, o_asg, o_name, o_sub, o_par, o_par3, o_drop, o_ret, o_retN, o_ifS, o_sl, o_noPart, o_part, o_bm, o_bm0, o_m0, o_m1, o_dget, o_dput, o_din, o_dnotin, o_listKeys, e_bl, e_int, e_str, e_some, e_two, e_three, o_for, o_lc, o_iList, o_iTup, o_iRng1, e_int1, e_ref, o_yes, o_wipe0, o_wipe1, o_disp, o_dnew, o_pairs0, o_pairs1, o_lock, o_keysM, o_gtup, o_gcons, o_gnil, o_rU, o_tru, o_revT, o_enumT, o_from, true_and, if_pos, List.getElem?_cons_zero, List.getElem?_cons_succ, List.set_cons_zero, List.set_cons_succ, List.append_nil])
section
variable {K : PySem.W.Frag}
end
end Tw
set_option Elab.async false
set_option linter.all false
set_option maxRecDepth 100000
set_option maxHeartbeats 4000000
/-! The plain layer: the promises that stood before it, told plainly. -/
namespace Tw
open PySem PySem.Spec PyProof.Rows L2 TL
/-! ### woods -/
def Fo.pvs : Fo → List PV
  | .nil => []
  | .cons n ks r => .tup [.str n, .tup (Fo.pvs ks)] :: Fo.pvs r
/-- a wood as a plain value -/
abbrev Fo.pv (f : Fo) : PV := .tup f.pvs
abbrev sT (zs : List Str) : PV := .tup (zs.map .str)
abbrev sL (zs : List Str) : PV := .lst (zs.map .str)
section
variable {K : PySem.W.Frag} [Tbs K] {dk : Option Addr} {F F' : Addr → Prop} {H H' : Hp} {a : Addr}
theorem rep_Rp : ∀ {f : Fo} {vs : List V}, RepL K dk F H vs f.pvs → Rp K H vs f
  | .nil, vs, r => by cases r; exact .nil
  | .cons n ks rest, vs, r => by
    cases r with
    | cons a b =>
      cases a with
      | tup s l =>
        cases l with
        | cons x y =>
          cases x
          cases y with
          | cons k z =>
            cases z
            cases k with
            | tup s2 l2 => exact .cons s s2 (rep_Rp l2) (rep_Rp b)
theorem Rp_rep {vs : List V} {f : Fo} (h : Rp K H vs f) : RepL K dk F H vs f.pvs := by
  induction h with
  | nil => exact .nil
  | cons a b _ _ ih1 ih2 => exact .cons (.tup a (.cons (.str _) (.cons (.tup b ih1) .nil))) ih2
theorem rep_wood {v : V} {f : Fo} (r : Rep K dk F H v f.pv) : ∃ a, v = .ref a ∧ WoodAt K H a f := by
  cases r with
  | tup s l => exact ⟨_, rfl, _, s, rep_Rp l⟩
theorem wood_rep {f : Fo} (h : WoodAt K H a f) : Rep K dk F H (.ref a) f.pv := by
  obtain ⟨vs, s, r⟩ := h
  exact .tup s (Rp_rep r)
theorem rep_sT {v : V} {zs : List Str} (r : Rep K dk F H v (sT zs)) : ∃ a, v = .ref a ∧ SqT K H a (zs.map V.str) := by
  cases r with
  | tup s l => have := l.strs; subst this; exact ⟨_, rfl, s⟩
theorem sT_rep {zs : List Str} (h : SqT K H a (zs.map V.str)) : Rep K dk F H (.ref a) (sT zs) := .tup h (RepL.ofStrs zs)
theorem rep_sL {v : V} {zs : List Str} (r : Rep K dk F H v (sL zs)) : ∃ a, v = .ref a ∧ F a ∧ H a = some (.lst (zs.map V.str)) := by
  cases r with
  | lst f s l => have := l.strs; subst this; exact ⟨_, rfl, f, s⟩
/-! ### the heap behind a call -/
theorem TbOk.mono (t : TbOk K F H) (fa : ∀ b, F b → ∃ o, H b = some o) (h : ∀ b o, F b → H b = some o → H' b = some o) (u : LamX.Tabs (Tbs.T K) H') : TbOk K F H' :=
  ⟨u, fun b ps hb e => by
    obtain ⟨o, ho⟩ := fa b hb
    have := h b o hb ho
    rw [e] at this
    exact t.fnt b ps hb (by rw [ho, ← this])⟩
theorem St0.kp (s : St0 K dk F (hide H) F H) (k : Kp H H') : St0 K dk F (hide H) F H' :=
  ⟨fun b o h _ => k b o (hide_some h).1, fun _ h => .inl h, fun b h => by obtain ⟨o, e⟩ := s.fall b h; exact ⟨o, k b o e⟩, fun _ h => h, s.fdk, fun d e => by obtain ⟨x, y, z, q⟩ := s.deck d e; exact ⟨x, y, z, k _ _ q⟩, s.deck0, s.h0, s.tb.mono s.fall (fun b o _ e => k b o e) (s.tb.tabs.ext k)⟩
theorem St0.dkk (s : St0 K (some a) F (hide H) F H) (k : Dk a H H') : St0 K (some a) F (hide H) F H' := by
  obtain ⟨x, y, z, q⟩ := s.deck a rfl
  exact ⟨fun b o h n => k.keep b o (hide_some h).1 fun e => n (by rw [e]), fun _ h => .inl h, fun b h => by obtain ⟨o, e⟩ := s.fall b h; exact ⟨o, k.keep b o e fun z => s.fdk b h (by rw [z])⟩, fun _ h => h, s.fdk, fun d e => by cases e; exact k.deck, s.deck0, s.h0,
    s.tb.mono s.fall (fun b o hb e => k.keep b o e fun z => s.fdk b hb (by rw [z])) (tabs_but s.tb.tabs (fun b o e n => k.keep b o e n) (fun ps e => by rw [q] at e; cases e) (fun c q' e => by unfold LamX.CodeO at e; rw [q] at e; cases e))⟩
/-- with a new list of the callee's -/
theorem St0.plus {b : Addr} {o : HO} (s : St0 K dk F (hide H) F H') (n : H b = none) (e : H' b = some o) (nd : dk ≠ some b) (hnt : ∀ ps, o ≠ .tbl ps := by intro _ e; cases e) : St0 K dk F (hide H) (fun c => F c ∨ c = b) H' :=
  ⟨s.base, fun c h => h.elim (fun h => s.fnew c h) fun h => .inr (by rw [h]; exact hide_none n), fun c h => h.elim (s.fall c) fun h => ⟨o, by rw [h]; exact e⟩, fun c h => .inl (s.f0 c h), fun c h => h.elim (s.fdk c) fun h => by rw [h]; exact nd, s.deck, s.deck0, s.h0, s.tb.sub e hnt⟩
theorem St0.notDeck (s : St0 K dk F H0 F H) {b : Addr} (n : H b = none) : dk ≠ some b := fun e => by
  obtain ⟨x, y, z, q⟩ := s.deck b e
  rw [n] at q; cases q
theorem St0.listNe (s : St0 K dk F H0 F H) {b : Addr} (h : F b) (e : dk = some a) : b ≠ a := fun z => s.fdk b h (by rw [e, z])
end
section
variable (K : PySem.W.Frag) [Tbs K]
/-! ### the law's draws -/
def psp_l_draw : PSp := fun xs _ post => ∃ n : Int, xs = [.deck, .int n] ∧ 0 < n ∧ n < 1073741824 ∧ ∀ d : Int, 0 ≤ d → d < n → post (.int d)
theorem hs_l_draw : SpOk K sp_l_draw psp_l_draw := by
  rintro dk F H vs xs perr post Q E s r ⟨n, rfl, h1, h2, h3⟩ q _
  cases r with
  | cons a b => cases b with
    | cons c d =>
      cases a with
      | deck e =>
        cases c; cases d; subst e
        exact ⟨_, n, rfl, s.deck _ rfl, h1, h2, fun d H' d0 d1 k => q _ H' F _ (s.dkk k) (.int d) (h3 d d0 d1)⟩
def psp_l_names : PSp := fun xs _ post => ∃ n : Int, xs = [.deck, .int n] ∧ 0 ≤ n ∧ n ≤ 300 ∧ ∀ zs : List Str, (zs.length : Int) = n → zs.Nodup → (∀ z ∈ zs, IsName z) → post (sL zs)
theorem hs_l_names : SpOk K sp_l_names psp_l_names := by
  rintro dk F H vs xs perr post Q E s r ⟨n, rfl, h1, h2, h3⟩ q _
  cases r with
  | cons a b => cases b with
    | cons c d =>
      cases a with
      | deck e =>
        cases c; cases d; subst e
        exact ⟨_, n, rfl, s.deck _ rfl, h1, h2, fun p zs H' hp k hz hl nd hn => q _ H' _ _ ((s.dkk k).plus hp hz (s.notDeck hp)) (.lst (.inr rfl) hz (RepL.ofStrs zs)) (h3 zs hl nd hn)⟩
def psp_l_wood : PSp := fun xs _ post => ∃ zs : List Str, xs = [.deck, sL zs] ∧ zs.Nodup ∧ (∀ z ∈ zs, IsName z) ∧ zs.length ≤ 100 ∧ ∀ f : Fo, f.nm.Perm zs → post f.pv
theorem hs_l_wood : SpOk K (sp_l_wood K) psp_l_wood := by
  rintro dk F H vs xs perr post Q E s r ⟨zs, rfl, nd, hn, hl, h3⟩ q _
  cases r with
  | cons a b => cases b with
    | cons c d =>
      cases a with
      | deck e =>
        cases d
        obtain ⟨l, rfl, fl, hl2⟩ := rep_sL c
        have ne := s.listNe fl e
        subst e
        exact ⟨_, l, zs, rfl, s.deck _ rfl, SqL.of hl2, ne, nd, hn, hl, fun p H' f k w g => q _ H' F _ (s.dkk k) (wood_rep w) (h3 f g)⟩
/-! ### the program's woods -/
def psp_row_of : PSp := fun xs _ post => ∃ f : Fo, xs = [f.pv] ∧ f.nm.length ≤ 1000 ∧ (∀ z ∈ f.nm, z.length ≤ 100) ∧ post (sT f.row)
theorem hs_row_of : SpOk K (sp_row_of K) psp_row_of := by
  rintro dk F H vs xs perr post Q E s r ⟨f, rfl, h2, h3, h4⟩ q _
  cases r with
  | cons a b =>
    cases b
    obtain ⟨p, rfl, w⟩ := rep_wood a
    exact ⟨p, f, rfl, w, h2, h3, fun p' H' k hs => q _ H' F _ (s.kp k) (sT_rep hs) h4⟩
def psp_unchecked_wood : PSp := fun xs _ post => ∃ f : Fo, (xs = [sT f.row] ∨ xs = [sL f.row]) ∧ NameOk f ∧ post f.pv
theorem hs_unchecked_wood : SpOk K (sp_unchecked_wood K) psp_unchecked_wood := by
  rintro dk F H vs xs perr post Q E s r ⟨f, hx, h1, h4⟩ q _
  rcases hx with rfl | rfl
  · cases r with
    | cons a b =>
      cases b
      obtain ⟨p, rfl, w⟩ := rep_sT a
      exact ⟨p, f, rfl, .inr w, h1, fun p' H' k hs => q _ H' F _ (s.kp k) (wood_rep hs) h4⟩
  · cases r with
    | cons a b =>
      cases b
      obtain ⟨p, rfl, _, w⟩ := rep_sL a
      exact ⟨p, f, rfl, .inl (SqL.of w), h1, fun p' H' k hs => q _ H' F _ (s.kp k) (wood_rep hs) h4⟩
/-- the gaps as a plain value -/
abbrev gpv (gs : List (List Str)) : PV := .tup (gs.map fun g => sT g)
end
/-! ### the law -/
/-- deck = _law_deck(script), and the rest -/
def lawT (K : PySem.W.Frag) [Tbs K] (i : Nat) (X : SS K) : TS := tSeq (tAsg (tCall (sp_l_deck K) [] E0 (tCons (tVar 0) tNil)) (gName i)) (X.rd fun _ => E0)
end Tw
set_option Elab.async false
set_option linter.all false
set_option maxRecDepth 100000
set_option maxHeartbeats 4000000
/-! a def of the form: try: work() / except C as e: .. / rest, called with a lambda -/
namespace Tw
open PySem PySem.Spec PyProof.Rows L2
/-- what is handed on behind work(): the error's wish holds whatever the slots -/
theorem takes_len {X : L2.Cx} {W : WX} {n : Nat} (hn : X.N.length = n) (t : L2.Takes X W) : L2.Takes X (fun cls d σ H => σ.length = n → W cls d σ H) := fun u s' ⟨a, B, sI, pins, σ, H, cls, d, e, I, nb, up, sky, na, os, ag, w⟩ =>
  t u s' ⟨a, B, sI, pins, σ, H, cls, d, e, I, nb, up, sky, na, os, ag, w (I.len.trans hn)⟩
/-! ### a law that makes lambdas -/
def sp_lawL (K : PySem.W.Frag) [Tbs K] : Sp := fun vs H Q _ => ∃ (a : Addr) (ns : List Int), vs = [.ref a] ∧ ns.length ≤ 63 ∧ SqL K H a (ns.map V.int) ∧ LamX.Tabs (Tbs.T K) H ∧ ∀ H', Q (.bl true) H'
theorem len_lawL {K : PySem.W.Frag} [Tbs K] (vs : List V) (H : Hp) (Q : VK) (E : XK) (h : sp_lawL K vs H Q E) : vs.length = 1 := by
  obtain ⟨_, _, rfl, _⟩ := h; rfl
theorem law_runL {K : PySem.W.Frag} [Tbs K] {i n : Nat} {X : SS K} (hi : i < n) (h0 : i ≠ 0) (h : X.wp (fun _ _ => False) { nx := fun _ => False, rt := fun x => x = .bl true } ((List.replicate n .no).set i (.val .deck))) (vs : List V) (H : Hp) (Q : VK) (E : XK) (hs : sp_lawL K vs H Q E) :
    lawT K i X { nx := fun _ H' => Q .non H', rt := Q } (startN n vs) H := by
  obtain ⟨a, ns, rfl, hl, hs, ht, q⟩ := hs
  unfold lawT
  rw [o_seq, o_asg, o_call]
  refine ⟨_, rfl, a, ns, rfl, hs, fun d H1 k1 hd hn => ?_⟩
  have st : St0 K (some d) (fun b => b ≠ d ∧ ∃ o, hide H b = some o) (hide H1) (fun b => b ≠ d ∧ ∃ o, hide H b = some o) H1 := by
    refine St0.refl (fun b hb => ?_) (fun b hb e => hb.1 (Option.some.inj e).symm) (fun d' e => by cases e; exact hd) ⟨ht.ext fun b u e => k1 _ _ e, fun b ps hb e => ?_⟩
    · obtain ⟨o, e⟩ := hb.2
      exact ⟨o, k1 _ _ (hide_some e).1⟩
    · obtain ⟨o, e2⟩ := hb.2
      have := k1 _ _ (hide_some e2).1
      rw [e] at this
      exact (hide_some e2).2 ps (Option.some.inj this).symm
  have I : PInv K (some d) (fun b => b ≠ d ∧ ∃ o, hide H b = some o) (hide H1) (fun b => b ≠ d ∧ ∃ o, hide H b = some o) (startN n [.ref a]) H1 (List.replicate n .no) := by
    have no : ∀ j b, ¬ OwnAt (startN n [.ref a]) (List.replicate n .no) j b := by
      rintro j b ⟨s, hs, hw, _⟩
      have := List.mem_of_getElem? hs
      rw [List.mem_replicate] at this
      rw [this.2] at hw; cases hw
    refine ⟨st, ?_, fun j s o hs ho => ?_, fun j k b h _ => (no j b h).elim, fun j b h => (no j b h).elim⟩
    · simp only [startN, List.length_append, List.length_map, List.length_replicate, List.length_cons, List.length_nil]; omega
    · have := List.mem_of_getElem? hs
      rw [List.mem_replicate] at this
      rw [this.2]; exact .no _
  exact X.ok (PE := fun _ _ => False) (PD := { nx := fun _ => False, rt := fun x => x = .bl true }) (I.setV (i := i) (v := .ref d) (x := .deck) (.deck rfl)) (fun _ _ _ _ _ _ _ _ _ _ _ _ z => z.elim)
    ⟨fun _ _ _ _ _ _ z => z.elim, fun F' H' v x _ r e => by subst e; cases r; exact q H', fun _ _ _ _ _ _ z => z.elim, fun _ _ _ _ _ _ z => z.elim⟩ h
end Tw
set_option Elab.async false
set_option linter.all false
set_option maxRecDepth 100000
/-! The plain layer: each wp, opened (printed by wip/tools/mkwp.py). -/
namespace Tw
open PySem PySem.Spec PyProof.Rows L2
theorem w_SE_var {K : PySem.W.Frag} [Tbs K] {i : Nat} {u0 : PEK} {ρ : Env} {P : PV → Env → Prop} : (SE.var i : SE K).wp u0 ρ P = (vwp i ρ P) := rfl
theorem w_SE_non {K : PySem.W.Frag} [Tbs K] {u0 : PEK} {ρ : Env} {P : PV → Env → Prop} : (SE.non : SE K).wp u0 ρ P = (P .non ρ) := rfl
theorem w_SE_bl {K : PySem.W.Frag} [Tbs K] {b : Bool} {u0 : PEK} {ρ : Env} {P : PV → Env → Prop} : (SE.bl b : SE K).wp u0 ρ P = (P (.bl b) ρ) := rfl
theorem w_SE_int {K : PySem.W.Frag} [Tbs K] {i : Int} {u0 : PEK} {ρ : Env} {P : PV → Env → Prop} : (SE.int i : SE K).wp u0 ρ P = (P (.int i) ρ) := rfl
theorem w_SE_str {K : PySem.W.Frag} [Tbs K] {x : Str} {u0 : PEK} {ρ : Env} {P : PV → Env → Prop} : (SE.str x : SE K).wp u0 ρ P = (P (.str x) ρ) := rfl
theorem w_SE_op {K : PySem.W.Frag} [Tbs K] {o : SO K} {a b : SE K} {PE : PEK} {ρ : Env} {P : PV → Env → Prop} : (SE.op o a b : SE K).wp PE ρ P = (a.wp PE ρ fun x ρ1 => b.wp PE ρ1 fun y ρ2 => o.wp x y fun z => P z ρ2) := rfl
theorem w_SE_un {K : PySem.W.Frag} [Tbs K] {o : SU K} {a : SE K} {PE : PEK} {ρ : Env} {P : PV → Env → Prop} : (SE.un o a : SE K).wp PE ρ P = (a.wp PE ρ fun x ρ1 => o.wp x fun z => P z ρ1) := rfl
theorem w_SE_cb {K : PySem.W.Frag} [Tbs K] {o : SB K} {a : SA K} {PE : PEK} {ρ : Env} {P : PV → Env → Prop} : (SE.cb o a : SE K).wp PE ρ P = (a.wp PE ρ fun xs ρ1 => o.wp xs fun z => P z ρ1) := rfl
theorem w_SE_tup {K : PySem.W.Frag} [Tbs K] {a : SA K} {PE : PEK} {ρ : Env} {P : PV → Env → Prop} : (SE.tup a : SE K).wp PE ρ P = (a.wp PE ρ fun xs ρ1 => xs.length ≤ sizeLine ∧ P (.tup xs) ρ1) := rfl
theorem w_SE_lst {K : PySem.W.Frag} [Tbs K] {a : SA K} {PE : PEK} {ρ : Env} {P : PV → Env → Prop} : (SE.lst a : SE K).wp PE ρ P = (a.wp PE ρ fun xs ρ1 => xs.length ≤ sizeLine ∧ P (.lst xs) ρ1) := rfl
theorem w_SE_ifE {K : PySem.W.Frag} [Tbs K] {c : ST K} {a b : SE K} {PE : PEK} {ρ : Env} {P : PV → Env → Prop} : (SE.ifE c a b : SE K).wp PE ρ P = (c.wp PE ρ fun k ρ1 => if k = true then a.wp PE ρ1 P else b.wp PE ρ1 P) := rfl
theorem w_SE_isN {K : PySem.W.Frag} [Tbs K] {a : SE K} {PE : PEK} {ρ : Env} {P : PV → Env → Prop} : (SE.isN a : SE K).wp PE ρ P = (a.wp PE ρ fun x ρ1 => P (.bl x.isN) ρ1) := rfl
theorem w_SE_notN {K : PySem.W.Frag} [Tbs K] {a : SE K} {PE : PEK} {ρ : Env} {P : PV → Env → Prop} : (SE.notN a : SE K).wp PE ρ P = (a.wp PE ρ fun x ρ1 => P (.bl (!x.isN)) ρ1) := rfl
theorem w_SA_nil {K : PySem.W.Frag} [Tbs K] {u0 : PEK} {ρ : Env} {P : List PV → Env → Prop} : (SA.nil : SA K).wp u0 ρ P = (P [] ρ) := rfl
theorem w_SA_cons {K : PySem.W.Frag} [Tbs K] {a : SE K} {t : SA K} {PE : PEK} {ρ : Env} {P : List PV → Env → Prop} : (SA.cons a t : SA K).wp PE ρ P = (a.wp PE ρ fun x ρ1 => t.wp PE ρ1 fun xs ρ2 => P (x :: xs) ρ2) := rfl
theorem w_ST_not {K : PySem.W.Frag} [Tbs K] {t : ST K} {PE : PEK} {ρ : Env} {P : Bool → Env → Prop} : (ST.not t : ST K).wp PE ρ P = (t.wp PE ρ fun k ρ1 => P (!k) ρ1) := rfl
theorem w_ST_and {K : PySem.W.Frag} [Tbs K] {t u : ST K} {PE : PEK} {ρ : Env} {P : Bool → Env → Prop} : (ST.and t u : ST K).wp PE ρ P = (t.wp PE ρ fun k ρ1 => if k = true then u.wp PE ρ1 P else P false ρ1) := rfl
theorem w_ST_or {K : PySem.W.Frag} [Tbs K] {t u : ST K} {PE : PEK} {ρ : Env} {P : Bool → Env → Prop} : (ST.or t u : ST K).wp PE ρ P = (t.wp PE ρ fun k ρ1 => if k = true then P true ρ1 else u.wp PE ρ1 P) := rfl
theorem w_ST_yes {K : PySem.W.Frag} [Tbs K] {u0 : PEK} {ρ : Env} {P : Bool → Env → Prop} : (ST.yes : ST K).wp u0 ρ P = (P true ρ) := rfl
theorem w_ST_tru {K : PySem.W.Frag} [Tbs K] {a : SE K} {PE : PEK} {ρ : Env} {P : Bool → Env → Prop} : (ST.tru a : ST K).wp PE ρ P = (a.wp PE ρ fun x ρ1 => x.tru fun k => P k ρ1) := rfl
theorem w_SG_name {K : PySem.W.Frag} [Tbs K] {i : Nat} {x : PV} {ρ : Env} {P : Env → Prop} : (SG.name i : SG K).wp x ρ P = (P (ρ.set i (.val x))) := rfl
theorem w_SS_next {K : PySem.W.Frag} [Tbs K] {u0 : PEK} {PD : PEnds} {ρ : Env} : (SS.next : SS K).wp u0 PD ρ = (PD.nx ρ) := rfl
theorem w_SS_brk {K : PySem.W.Frag} [Tbs K] {u0 : PEK} {PD : PEnds} {ρ : Env} : (SS.brk : SS K).wp u0 PD ρ = (PD.bk ρ) := rfl
theorem w_SS_cont {K : PySem.W.Frag} [Tbs K] {u0 : PEK} {PD : PEnds} {ρ : Env} : (SS.cont : SS K).wp u0 PD ρ = (PD.ct ρ) := rfl
theorem w_SS_never {K : PySem.W.Frag} [Tbs K] {u0 : PEK} {u1 : PEnds} {u2 : Env} : (SS.never : SS K).wp u0 u1 u2 = (False) := rfl
theorem w_SS_seq {K : PySem.W.Frag} [Tbs K] {t u : SS K} {PE : PEK} {PD : PEnds} {ρ : Env} : (SS.seq t u : SS K).wp PE PD ρ = (t.wp PE { PD with nx := fun ρ' => u.wp PE PD ρ' } ρ) := rfl
theorem w_SS_cut {K : PySem.W.Frag} [Tbs K] {t u : SS K} {PE : PEK} {PD : PEnds} {ρ : Env} : (SS.cut t u : SS K).wp PE PD ρ = (t.wp PE { PD with nx := fun ρ' => u.wp PE PD ρ' } ρ) := rfl
theorem w_SS_asg {K : PySem.W.Frag} [Tbs K] {a : SE K} {g : SG K} {PE : PEK} {PD : PEnds} {ρ : Env} : (SS.asg a g : SS K).wp PE PD ρ = (a.wp PE ρ fun x ρ1 => g.wp x ρ1 PD.nx) := rfl
theorem w_SS_drop {K : PySem.W.Frag} [Tbs K] {a : SE K} {PE : PEK} {PD : PEnds} {ρ : Env} : (SS.drop a : SS K).wp PE PD ρ = (a.wp PE ρ fun _ ρ1 => PD.nx ρ1) := rfl
theorem w_SS_ret {K : PySem.W.Frag} [Tbs K] {a : SE K} {PE : PEK} {PD : PEnds} {ρ : Env} : (SS.ret a : SS K).wp PE PD ρ = (a.wp PE ρ fun x _ => PD.rt x) := rfl
theorem w_SS_retN {K : PySem.W.Frag} [Tbs K] {u0 : PEK} {PD : PEnds} {u2 : Env} : (SS.retN : SS K).wp u0 PD u2 = (PD.rt .non) := rfl
theorem w_SS_ifS {K : PySem.W.Frag} [Tbs K] {c : ST K} {t u : SS K} {PE : PEK} {PD : PEnds} {ρ : Env} : (SS.ifS c t u : SS K).wp PE PD ρ = (c.wp PE ρ fun k ρ1 => if k = true then t.wp PE PD ρ1 else u.wp PE PD ρ1) := rfl
theorem w_SS_for_ {K : PySem.W.Frag} [Tbs K] {wi : SI K} {g : SG K} {b : SS K} {PE : PEK} {PD : PEnds} {ρ : Env} : (SS.for_ wi g b : SS K).wp PE PD ρ = (wi.wp PE ρ fun xs ρ1 => wpFor (fun x ρ2 PD' => g.wp x ρ2 fun ρ3 => b.wp PE PD' ρ3) xs ρ1 PD) := rfl
theorem w_SS_while_ {K : PySem.W.Frag} [Tbs K] {c : ST K} {b : SS K} {PE : PEK} {PD : PEnds} {ρ : Env} : (SS.while_ c b : SS K).wp PE PD ρ = (∃ n, wpWhile (c.wp PE) (b.wp PE) PD n ρ) := rfl
theorem w_SN_lst {K : PySem.W.Frag} [Tbs K] {a : SA K} {PE : PEK} {ρ : Env} {P : List PV → Env → Prop} : (SN.lst a : SN K).wp PE ρ P = (a.wp PE ρ fun xs ρ1 => xs.length ≤ sizeLine ∧ P xs ρ1) := rfl
theorem w_SE_nl {K : PySem.W.Frag} [Tbs K] {n : SN K} {PE : PEK} {ρ : Env} {P : PV → Env → Prop} : (SE.nl n : SE K).wp PE ρ P = (n.wp PE ρ fun xs ρ1 => P (.lst xs) ρ1) := rfl
theorem w_SS_own {K : PySem.W.Frag} [Tbs K] {i : Nat} {n : SN K} {PE : PEK} {PD : PEnds} {ρ : Env} : (SS.own i n : SS K).wp PE PD ρ = (n.wp PE ρ fun xs ρ1 => PD.nx (ρ1.set i (.own xs))) := rfl
theorem w_SN_lc {K : PySem.W.Frag} [Tbs K] {wi : SI K} {g : SG K} {tt : ST K} {te : SE K} {PE : PEK} {ρ : Env} {P : List PV → Env → Prop} : (SN.lc wi g tt te : SN K).wp PE ρ P = (wi.wp PE ρ fun xs ρ1 => wpLc (lcStep g tt te PE) xs [] (wipeE ρ1 g.sl) P) := rfl
theorem w_SE_call {K : PySem.W.Frag} [Tbs K] {sp : Sp} {psp : PSp} {hs : SpOk K sp psp} {a : SA K} {PE : PEK} {ρ : Env} {P : PV → Env → Prop} : (SE.call sp psp hs a : SE K).wp PE ρ P = (a.wp PE ρ fun xs ρ1 => psp xs (fun _ => False) fun x => P x ρ1) := rfl
theorem w_SE_callS {K : PySem.W.Frag} [Tbs K] {sp : Sp} {psp : PSp} {hs : SpOk K sp psp} {a : SA K} {PE : PEK} {ρ : Env} {P : PV → Env → Prop} : (SE.callS sp psp hs a : SE K).wp PE ρ P = (a.wp PE ρ fun xs ρ1 => psp xs (fun er => PE ρ1 er) fun x => P x ρ1) := rfl
theorem w_SS_append {K : PySem.W.Frag} [Tbs K] {i : Nat} {a : SE K} {PE : PEK} {PD : PEnds} {ρ : Env} : (SS.append i a : SS K).wp PE PD ρ = (∃ xs0, ρ[i]? = some (.own xs0) ∧ a.wp PE ρ fun y ρ1 => ∃ xs, ρ1[i]? = some (.own xs) ∧ xs.length < sizeLine ∧ PD.nx (ρ1.set i (.own (xs ++ [y])))) := rfl
theorem w_SE_pop {K : PySem.W.Frag} [Tbs K] {i : Nat} {u0 : PEK} {ρ : Env} {P : PV → Env → Prop} : (SE.pop i : SE K).wp u0 ρ P = (∃ xs y, ρ[i]? = some (.own (xs ++ [y])) ∧ P y (ρ.set i (.own xs))) := rfl
theorem w_SO_i0 {K : PySem.W.Frag} [Tbs K] {f : Int → Int → Int} {x : PV} {y : PV} {P : PV → Prop} : (SO.i0 f : SO K).wp x y P = (∃ i j, x = .int i ∧ y = .int j ∧ P (.int (f i j))) := rfl
theorem w_SO_c0 {K : PySem.W.Frag} [Tbs K] {f : Int → Int → Bool} {x : PV} {y : PV} {P : PV → Prop} : (SO.c0 f : SO K).wp x y P = (∃ i j, x = .int i ∧ y = .int j ∧ P (.bl (f i j))) := rfl
theorem w_SO_iC {K : PySem.W.Frag} [Tbs K] {C : Int → Int → Prop} {f : Int → Int → Int} {x : PV} {y : PV} {P : PV → Prop} : (SO.iC C f : SO K).wp x y P = (∃ i j, x = .int i ∧ y = .int j ∧ C i j ∧ P (.int (f i j))) := rfl
theorem w_SO_addS {K : PySem.W.Frag} [Tbs K] {x : PV} {y : PV} {P : PV → Prop} : (SO.addS : SO K).wp x y P = (∃ i j, x = .str i ∧ y = .str j ∧ i.length + j.length ≤ sizeLine ∧ P (.str (i ++ j))) := rfl
theorem w_SO_repS {K : PySem.W.Frag} [Tbs K] {x : PV} {y : PV} {P : PV → Prop} : (SO.repS : SO K).wp x y P = (∃ i j, x = .str i ∧ y = .int j ∧ MulOk i j ∧ P (.str (Txt.mul i j))) := rfl
theorem w_SO_catT {K : PySem.W.Frag} [Tbs K] {x : PV} {y : PV} {P : PV → Prop} : (SO.catT : SO K).wp x y P = (∃ xs ys, x = .tup xs ∧ y = .tup ys ∧ xs.length + ys.length ≤ sizeLine ∧ P (.tup (xs ++ ys))) := rfl
theorem w_SO_ixS {K : PySem.W.Frag} [Tbs K] {x : PV} {y : PV} {P : PV → Prop} : (SO.ixS : SO K).wp x y P = (∃ z i c, x = .str z ∧ y = .int i ∧ z.length ≤ sizeLine ∧ L2.atI z.cps.toList i = some c ∧ P (.str ⟨#[c]⟩)) := rfl
theorem w_SO_ixT {K : PySem.W.Frag} [Tbs K] {x : PV} {y : PV} {P : PV → Prop} : (SO.ixT : SO K).wp x y P = (∃ xs i u, x = .tup xs ∧ y = .int i ∧ L2.atI xs i = some u ∧ P u) := rfl
theorem w_SO_ixL {K : PySem.W.Frag} [Tbs K] {x : PV} {y : PV} {P : PV → Prop} : (SO.ixL : SO K).wp x y P = (∃ xs i u, x = .lst xs ∧ y = .int i ∧ L2.atI xs i = some u ∧ P u) := rfl
theorem w_SO_eq {K : PySem.W.Frag} [Tbs K] {x : PV} {y : PV} {P : PV → Prop} : (SO.eq : SO K).wp x y P = (∃ v w, x.sv = some v ∧ y.sv = some w ∧ scal v w = true ∧ P (.bl (decide (v = w)))) := rfl
theorem w_SO_ne {K : PySem.W.Frag} [Tbs K] {x : PV} {y : PV} {P : PV → Prop} : (SO.ne : SO K).wp x y P = (∃ v w, x.sv = some v ∧ y.sv = some w ∧ scal v w = true ∧ P (.bl (!decide (v = w)))) := rfl
theorem w_SO_inS {K : PySem.W.Frag} [Tbs K] {neg : Bool} {x : PV} {y : PV} {P : PV → Prop} : (SO.inS neg : SO K).wp x y P = (∃ (n : Str) (zs : List Str), x = .str n ∧ (y = .tup (zs.map .str) ∨ y = .lst (zs.map .str)) ∧ P (.bl (neg != decide (n ∈ zs)))) := rfl
theorem w_SP__no {K : PySem.W.Frag} [Tbs K] {u0 : PEK} {ρ : Env} {P : Option Int → Env → Prop} : (SP_.no : SP_ K).wp u0 ρ P = (P none ρ) := rfl
theorem w_SN_cat {K : PySem.W.Frag} [Tbs K] {a b : SE K} {PE : PEK} {ρ : Env} {P : List PV → Env → Prop} : (SN.cat a b : SN K).wp PE ρ P = (a.wp PE ρ fun x ρ1 => b.wp PE ρ1 fun y ρ2 => ∃ xs ys, x = .lst xs ∧ y = .lst ys ∧ xs.length + ys.length ≤ sizeLine ∧ P (xs ++ ys) ρ2) := rfl
theorem w_SB_lenS {K : PySem.W.Frag} [Tbs K] {xs : List PV} {P : PV → Prop} : (SB.lenS : SB K).wp xs P = (∃ z, xs = [.str z] ∧ z.length ≤ sizeLine ∧ P (.int z.length)) := rfl
theorem w_SB_lenQ {K : PySem.W.Frag} [Tbs K] {xs : List PV} {P : PV → Prop} : (SB.lenQ : SB K).wp xs P = (∃ ys, (xs = [.lst ys] ∨ xs = [.tup ys]) ∧ P (.int ys.length)) := rfl
theorem w_SB_abs {K : PySem.W.Frag} [Tbs K] {xs : List PV} {P : PV → Prop} : (SB.abs : SB K).wp xs P = (∃ i, xs = [.int i] ∧ P (.int (if i < 0 then -i else i))) := rfl
theorem w_SB_int1 {K : PySem.W.Frag} [Tbs K] {xs : List PV} {P : PV → Prop} : (SB.int1 : SB K).wp xs P = ((∃ i, xs = [.int i] ∧ P (.int i)) ∨ ∃ k, xs = [.bl k] ∧ P (.int (if k then 1 else 0))) := rfl
theorem w_SB_tupleOf {K : PySem.W.Frag} [Tbs K] {xs : List PV} {P : PV → Prop} : (SB.tupleOf : SB K).wp xs P = (∃ ys, (xs = [.lst ys] ∨ xs = [.tup ys]) ∧ P (.tup ys)) := rfl
theorem w_SB_max2 {K : PySem.W.Frag} [Tbs K] {xs : List PV} {P : PV → Prop} : (SB.max2 : SB K).wp xs P = (∃ i j, xs = [.int i, .int j] ∧ P (.int (if j > i then j else i))) := rfl
theorem w_SB_min2 {K : PySem.W.Frag} [Tbs K] {xs : List PV} {P : PV → Prop} : (SB.min2 : SB K).wp xs P = (∃ i j, xs = [.int i, .int j] ∧ P (.int (if j < i then j else i))) := rfl
theorem w_SB_all_ {K : PySem.W.Frag} [Tbs K] {xs : List PV} {P : PV → Prop} : (SB.all_ : SB K).wp xs P = (∃ bs : List Bool, xs = [.lst (bs.map .bl)] ∧ P (.bl (bs.all id))) := rfl
theorem w_SS_raise0 {K : PySem.W.Frag} [Tbs K] {C : Addr} {PE : PEK} {u1 : PEnds} {ρ : Env} : (SS.raise0 C : SS K).wp PE u1 ρ = (PE ρ (C, [])) := rfl
theorem w_SS_raise1 {K : PySem.W.Frag} [Tbs K] {C : Addr} {f : Str} {a : SE K} {PE : PEK} {u1 : PEnds} {ρ : Env} : (SS.raise1 C f a : SS K).wp PE u1 ρ = (a.wp PE ρ fun x ρ1 => PE ρ1 (C, [(f, x)])) := rfl
theorem w_SS_raise2 {K : PySem.W.Frag} [Tbs K] {C : Addr} {f g : Str} {a b : SE K} {PE : PEK} {u1 : PEnds} {ρ : Env} : (SS.raise2 C f g a b : SS K).wp PE u1 ρ = (a.wp PE ρ fun x ρ1 => b.wp PE ρ1 fun y ρ2 => PE ρ2 (C, [(g, y), (f, x)])) := rfl
theorem w_SS_tryO {K : PySem.W.Frag} [Tbs K] {C : Addr} {body cl : SS K} {PE : PEK} {PD : PEnds} {ρ : Env} : (SS.tryO C body cl : SS K).wp PE PD ρ = (body.wp (fun ρ1 er => ∃ b, PySem.W.exmOne K (.ref er.1) (.ref C) = some b ∧ (b = true → cl.wp PE PD ρ1) ∧ (b = false → PE ρ1 er)) PD ρ) := rfl
theorem w_SS_tryA {K : PySem.W.Frag} [Tbs K] {C : Addr} {i : Nat} {body : SS K} {cl : Addr → Value → Option Addr → SS K} {PE : PEK} {PD : PEnds} {ρ : Env} : (SS.tryA C i body cl : SS K).wp PE PD ρ = (body.wp (fun ρ1 er => ∃ b, PySem.W.exmOne K (.ref er.1) (.ref C) = some b ∧ (b = true → ∀ a d, (cl a (.ref er.1) d).wp PE { nx := fun ρ' => PD.nx (ρ'.set i .no), rt := PD.rt, bk := fun ρ' => PD.bk (ρ'.set i .no), ct := fun ρ' => PD.ct (ρ'.set i .no) } (ρ1.set i (.err a d er))) ∧ (b = false → PE ρ1 er)) PD ρ) := rfl
theorem w_SS_tryM {K : PySem.W.Frag} [Tbs K] {body : SS K} {l : List (Addr × SS K)} {PE : PEK} {PD : PEnds} {ρ : Env} : (SS.tryM body l : SS K).wp PE PD ρ = (body.wp (wpMany PE PD l) PD ρ) := rfl
theorem w_SE_xf {K : PySem.W.Frag} [Tbs K] {a : Addr} {cls : Value} {d : Option Addr} {C : Addr} {f : Str} {i : Nat} {u0 : PEK} {ρ : Env} {P : PV → Env → Prop} : (SE.xf a cls d C f i : SE K).wp u0 ρ P = (∃ er x, ρ[i]? = some (.err a d er) ∧ cls = .ref C ∧ er.2.lookup f = some x ∧ P x ρ) := rfl
theorem w_SE_isE {K : PySem.W.Frag} [Tbs K] {a : Addr} {cls : Value} {d : Option Addr} {C X : Addr} {i : Nat} {u0 : PEK} {ρ : Env} {P : PV → Env → Prop} : (SE.isE a cls d C X i : SE K).wp u0 ρ P = (∃ er b, ρ[i]? = some (.err a d er) ∧ er.2 ≠ [] ∧ cls = .ref C ∧ PySem.W.kitOne K (.ref C) (.ref X) = some b ∧ P (.bl b) ρ) := rfl
theorem w_SE_lenO {K : PySem.W.Frag} [Tbs K] {i : Nat} {u0 : PEK} {ρ : Env} {P : PV → Env → Prop} : (SE.lenO i : SE K).wp u0 ρ P = (∃ xs, ρ[i]? = some (.own xs) ∧ P (.int xs.length) ρ) := rfl
theorem w_SE_tupO {K : PySem.W.Frag} [Tbs K] {i : Nat} {u0 : PEK} {ρ : Env} {P : PV → Env → Prop} : (SE.tupO i : SE K).wp u0 ρ P = (∃ xs, ρ[i]? = some (.own xs) ∧ P (.tup xs) ρ) := rfl
theorem w_SE_ixO {K : PySem.W.Frag} [Tbs K] {i : Nat} {b : SE K} {PE : PEK} {ρ : Env} {P : PV → Env → Prop} : (SE.ixO i b : SE K).wp PE ρ P = (∃ xs0, ρ[i]? = some (.own xs0) ∧ b.wp PE ρ fun y ρ1 => ∃ xs k u, ρ1[i]? = some (.own xs) ∧ y = .int k ∧ L2.atI xs k = some u ∧ P u ρ1) := rfl
theorem w_SE_eqEO {K : PySem.W.Frag} [Tbs K] {neg : Bool} {i : Nat} {u0 : PEK} {ρ : Env} {P : PV → Env → Prop} : (SE.eqEO neg i : SE K).wp u0 ρ P = (∃ xs, ρ[i]? = some (.own xs) ∧ P (.bl (neg != xs.isEmpty)) ρ) := rfl
theorem w_SE_popAt {K : PySem.W.Frag} [Tbs K] {i : Nat} {b : SE K} {PE : PEK} {ρ : Env} {P : PV → Env → Prop} : (SE.popAt i b : SE K).wp PE ρ P = (∃ xs0, ρ[i]? = some (.own xs0) ∧ b.wp PE ρ fun y ρ1 => ∃ xs k j u, ρ1[i]? = some (.own xs) ∧ y = .int k ∧ -(2 ^ 63) ≤ k ∧ k < 2 ^ 63 ∧ seqIndex? k xs.length = some j ∧ xs[j]? = some u ∧ P u (ρ1.set i (.own (xs.eraseIdx j)))) := rfl
theorem w_ST_truO {K : PySem.W.Frag} [Tbs K] {i : Nat} {u0 : PEK} {ρ : Env} {P : Bool → Env → Prop} : (ST.truO i : ST K).wp u0 ρ P = (∃ xs, ρ[i]? = some (.own xs) ∧ P (!xs.isEmpty) ρ) := rfl
theorem w_SN_listO {K : PySem.W.Frag} [Tbs K] {i : Nat} {u0 : PEK} {ρ : Env} {P : List PV → Env → Prop} : (SN.listO i : SN K).wp u0 ρ P = (∃ xs, ρ[i]? = some (.own xs) ∧ P xs ρ) := rfl
theorem w_SN_slO {K : PySem.W.Frag} [Tbs K] {i : Nat} {lo hi : SP_ K} {PE : PEK} {ρ : Env} {P : List PV → Env → Prop} : (SN.slO i lo hi : SN K).wp PE ρ P = (∃ xs0, ρ[i]? = some (.own xs0) ∧ lo.wp PE ρ fun l ρ2 => hi.wp PE ρ2 fun h ρ3 => ∃ xs, ρ3[i]? = some (.own xs) ∧ P (cutP xs l h) ρ3) := rfl
theorem w_SN_rep {K : PySem.W.Frag} [Tbs K] {a b : SE K} {PE : PEK} {ρ : Env} {P : List PV → Env → Prop} : (SN.rep a b : SN K).wp PE ρ P = (a.wp PE ρ fun x ρ1 => b.wp PE ρ1 fun y ρ2 => ∃ xs k, x = .lst xs ∧ y = .int k ∧ -(2 ^ 63) ≤ k ∧ k < 2 ^ 63 ∧ xs.length * k.toNat ≤ sizeLine ∧ P (List.replicate k.toNat xs).flatten ρ2) := rfl
theorem w_SN_sortedS {K : PySem.W.Frag} [Tbs K] {a : SE K} {PE : PEK} {ρ : Env} {P : List PV → Env → Prop} : (SN.sortedS a : SN K).wp PE ρ P = (a.wp PE ρ fun x ρ1 => ∃ zs : List Str, x = .lst (zs.map .str) ∧ zs.length < 64 ∧ ∀ ys : List Str, ys.Perm zs → PyProof.Rows.sortedS ys = true → P (ys.map .str) ρ1) := rfl
theorem w_SN_sortedI {K : PySem.W.Frag} [Tbs K] {a : SE K} {PE : PEK} {ρ : Env} {P : List PV → Env → Prop} : (SN.sortedI a : SN K).wp PE ρ P = (a.wp PE ρ fun x ρ1 => ∃ zs : List Int, x = .lst (zs.map .int) ∧ ∀ ys : List Int, ys.Perm zs → ys.Pairwise (· ≤ ·) → P (ys.map .int) ρ1) := rfl
theorem w_SS_extendT {K : PySem.W.Frag} [Tbs K] {i : Nat} {a : SE K} {PE : PEK} {PD : PEnds} {ρ : Env} : (SS.extendT i a : SS K).wp PE PD ρ = (∃ xs0, ρ[i]? = some (.own xs0) ∧ a.wp PE ρ fun y ρ1 => ∃ xs ys, ρ1[i]? = some (.own xs) ∧ y = .tup ys ∧ xs.length + ys.length ≤ sizeLine ∧ PD.nx (ρ1.set i (.own (xs ++ ys)))) := rfl
theorem w_SS_extendL {K : PySem.W.Frag} [Tbs K] {i : Nat} {a : SE K} {PE : PEK} {PD : PEnds} {ρ : Env} : (SS.extendL i a : SS K).wp PE PD ρ = (∃ xs0, ρ[i]? = some (.own xs0) ∧ a.wp PE ρ fun y ρ1 => ∃ xs ys, ρ1[i]? = some (.own xs) ∧ y = .lst ys ∧ xs.length + ys.length ≤ sizeLine ∧ PD.nx (ρ1.set i (.own (xs ++ ys)))) := rfl
theorem w_SS_insert {K : PySem.W.Frag} [Tbs K] {i : Nat} {a b : SE K} {PE : PEK} {PD : PEnds} {ρ : Env} : (SS.insert i a b : SS K).wp PE PD ρ = (∃ xs0, ρ[i]? = some (.own xs0) ∧ a.wp PE ρ fun y ρ1 => b.wp PE ρ1 fun z ρ2 => ∃ xs k, ρ2[i]? = some (.own xs) ∧ y = .int k ∧ xs.length < sizeLine ∧ 0 ≤ k ∧ k < 2 ^ 63 ∧ PD.nx (ρ2.set i (.own (xs.take k.toNat ++ [z] ++ xs.drop k.toNat)))) := rfl
theorem w_SS_setL {K : PySem.W.Frag} [Tbs K] {i : Nat} {k a : SE K} {PE : PEK} {PD : PEnds} {ρ : Env} : (SS.setL i k a : SS K).wp PE PD ρ = (a.wp PE ρ fun z ρ1 => ∃ xs0, ρ1[i]? = some (.own xs0) ∧ k.wp PE ρ1 fun y ρ2 => ∃ xs m j, ρ2[i]? = some (.own xs) ∧ y = .int m ∧ ixN xs.length m = some j ∧ PD.nx (ρ2.set i (.own (xs.set j z)))) := rfl
theorem w_SS_asg2 {K : PySem.W.Frag} [Tbs K] {a : SE K} {g1 g2 : SG K} {PE : PEK} {PD : PEnds} {ρ : Env} : (SS.asg2 a g1 g2 : SS K).wp PE PD ρ = (a.wp PE ρ fun x ρ1 => g1.wp x ρ1 fun ρ2 => g2.wp x ρ2 PD.nx) := rfl
theorem w_SS_par {K : PySem.W.Frag} [Tbs K] {i j : Nat} {a b : PR K} {PE : PEK} {PD : PEnds} {ρ : Env} : (SS.par i j a b : SS K).wp PE PD ρ = (i ≠ j ∧ a.wp PE ρ fun x ρ1 => b.wp PE ρ1 fun y ρ2 => PD.nx ((ρ2.set i x).set j y)) := rfl
theorem w_SU_neg {K : PySem.W.Frag} [Tbs K] {x : PV} {P : PV → Prop} : (SU.neg : SU K).wp x P = (∃ i, x = .int i ∧ P (.int (-i))) := rfl
theorem w_SE_joined {K : PySem.W.Frag} [Tbs K] {ts : List (SE K)} {PE : PEK} {ρ : Env} {P : PV → Env → Prop} : (SE.joined ts : SE K).wp PE ρ P = (wpJs PE ts Str.empty ρ fun y ρ1 => P (.str y) ρ1) := rfl
theorem w_SE_join {K : PySem.W.Frag} [Tbs K] {a b : SE K} {PE : PEK} {ρ : Env} {P : PV → Env → Prop} : (SE.join a b : SE K).wp PE ρ P = (a.wp PE ρ fun x ρ1 => ∃ z : Str, x = .str z ∧ b.wp PE ρ1 fun y ρ2 => ∃ ys : List Str, (y = .lst (ys.map .str) ∨ y = .tup (ys.map .str)) ∧ (ys.map (·.length)).sum + ys.length * z.length ≤ 16777216 ∧ P (.str (Txt.join z ys)) ρ2) := rfl
theorem w_SE_txtB {K : PySem.W.Frag} [Tbs K] {f : Str → Bool} {a : SE K} {PE : PEK} {ρ : Env} {P : PV → Env → Prop} : (SE.txtB f a : SE K).wp PE ρ P = (a.wp PE ρ fun x ρ1 => ∃ z : Str, x = .str z ∧ P (.bl (f z)) ρ1) := rfl
theorem w_SE_lenSetT {K : PySem.W.Frag} [Tbs K] {a : SE K} {PE : PEK} {ρ : Env} {P : PV → Env → Prop} : (SE.lenSetT a : SE K).wp PE ρ P = (a.wp PE ρ fun x ρ1 => ∃ zs : List Str, x = .tup (zs.map .str) ∧ zs.length < 4000 ∧ P (.int (dcnt zs zs.length : Nat)) ρ1) := rfl
theorem w_SE_chain {K : PySem.W.Frag} [Tbs K] {o o' : SO K} {a b c : SE K} {PE : PEK} {ρ : Env} {P : PV → Env → Prop} : (SE.chain o o' a b c : SE K).wp PE ρ P = (a.wp PE ρ fun x ρ1 => b.wp PE ρ1 fun y ρ2 => o.wp x y fun z => ∃ k, z = .bl k ∧ if k = true then c.wp PE ρ2 fun w ρ3 => o'.wp y w fun u => P u ρ3 else P (.bl false) ρ2) := rfl
theorem w_SO_inSign {K : PySem.W.Frag} [Tbs K] {neg : Bool} {x : PV} {y : PV} {P : PV → Prop} : (SO.inSign neg : SO K).wp x y P = (∃ (c : Nat) (z : Str), x = .str ⟨#[c]⟩ ∧ y = .str z ∧ P (.bl (neg != decide (c ∈ z.cps.toList)))) := rfl
theorem w_SO_eqE {K : PySem.W.Frag} [Tbs K] {neg : Bool} {x : PV} {y : PV} {P : PV → Prop} : (SO.eqE neg : SO K).wp x y P = (∃ xs, ((x = .lst xs ∧ y = .lst []) ∨ (neg = false ∧ x = .tup xs ∧ y = .tup [])) ∧ P (.bl (neg != xs.isEmpty))) := rfl
theorem w_SB_repr {K : PySem.W.Frag} [Tbs K] {xs : List PV} {P : PV → Prop} : (SB.repr : SB K).wp xs P = (∃ x ys, xs = [x] ∧ (x = .lst ys ∨ x = .tup ys) ∧ x.plain = true ∧ x.pd.showable = true ∧ x.pd.hasDict = false ∧ x.pd.depth ≤ 100 ∧ x.pd.shown.length ≤ sizeLine ∧ P (.str x.pd.shown)) := rfl
theorem w_for0 {st : PV → Env → PEnds → Prop} {ρ : Env} {PD : PEnds} : wpFor st [] ρ PD = PD.nx ρ := rfl
theorem w_for1 {st : PV → Env → PEnds → Prop} {x : PV} {xs : List PV} {ρ : Env} {PD : PEnds} : wpFor st (x :: xs) ρ PD = st x ρ { PD with nx := fun ρ' => wpFor st xs ρ' PD, ct := fun ρ' => wpFor st xs ρ' PD, bk := PD.nx } := rfl
end Tw
set_option Elab.async false
set_option linter.all false
set_option maxRecDepth 100000
set_option maxHeartbeats 4000000
/-! The plain layer: rules for loops and comprehensions, types, equality of data. -/
namespace Tw
open PySem PySem.Spec PyProof.Rows L2
theorem for_inv {step : PV → Env → PEnds → Prop} {PD : PEnds} (I : Nat → Env → Prop) : ∀ {xs : List PV} {ρ : Env}, I 0 ρ → (∀ i x ρ (k : Env → Prop), xs[i]? = some x → I i ρ → (∀ ρ', I (i + 1) ρ' → k ρ') → step x ρ { PD with nx := k, ct := k, bk := PD.nx }) →
    (∀ ρ, I xs.length ρ → PD.nx ρ) → wpFor step xs ρ PD := by
  have key : ∀ (ys : List PV) (n : Nat) (ρ : Env), I n ρ → (∀ i x ρ (k : Env → Prop), ys[i]? = some x → I (n + i) ρ → (∀ ρ', I (n + i + 1) ρ' → k ρ') → step x ρ { PD with nx := k, ct := k, bk := PD.nx }) → (∀ ρ, I (n + ys.length) ρ → PD.nx ρ) → wpFor step ys ρ PD := by
    intro ys
    induction ys with
    | nil => intro n ρ h0 _ hd; exact hd ρ h0
    | cons x ys ih =>
      intro n ρ h0 hs hd
      refine hs 0 x ρ _ rfl h0 fun ρ' h1 => ih (n + 1) ρ' h1 (fun i x ρ k hx hi hk => ?_) fun ρ h => hd ρ (by rw [List.length_cons, ← Nat.add_assoc, Nat.add_right_comm]; exact h)
      exact hs (i + 1) x ρ k (by simpa using hx) (by rw [← Nat.add_assoc, Nat.add_right_comm]; exact hi) fun ρ' h => hk ρ' (by rw [Nat.add_right_comm n 1 i, Nat.add_assoc n i 1] ; exact h)
  intro xs ρ h0 hs hd
  exact key xs 0 ρ h0 (fun i x ρ k hx hi hk => hs i x ρ k hx (by simpa using hi) fun ρ' h => hk ρ' (by simpa using h)) fun ρ h => hd ρ (by simpa using h)
/-- a comprehension whose turns do nothing else -/
theorem lc_fm {step : PV → Env → (Option PV → Env → Prop) → Prop} {ρ : Env} {P : List PV → Env → Prop} (f : PV → Option PV) : ∀ {xs acc : List PV}, (∀ x ∈ xs, ∀ k : Option PV → Env → Prop, k (f x) ρ → step x ρ k) → acc.length + xs.length ≤ sizeLine → P (acc ++ xs.filterMap f) ρ → wpLc step xs acc ρ P := by
  intro xs
  induction xs with
  | nil => intro acc _ _ h; simpa [wpLc] using h
  | cons x xs ih =>
    intro acc hs hl h
    rw [List.length_cons] at hl
    refine hs x (List.mem_cons_self ..) _ ?_
    cases hf : f x with
    | none =>
      refine ih (fun y hy => hs y (List.mem_cons_of_mem _ hy)) (by omega) ?_
      rw [List.filterMap_cons, hf] at h; exact h
    | some y =>
      refine ⟨by omega, ih (fun y hy => hs y (List.mem_cons_of_mem _ hy)) (by rw [List.length_append, List.length_singleton]; omega) ?_⟩
      rw [List.filterMap_cons, hf] at h
      rw [List.append_assoc]; exact h
theorem lc_map {step : PV → Env → (Option PV → Env → Prop) → Prop} {ρ : Env} {P : List PV → Env → Prop} (f : PV → PV) {xs acc : List PV} (hs : ∀ x ∈ xs, ∀ k : Option PV → Env → Prop, k (some (f x)) ρ → step x ρ k) (hl : acc.length + xs.length ≤ sizeLine) (h : P (acc ++ xs.map f) ρ) : wpLc step xs acc ρ P := by
  refine lc_fm (fun x => some (f x)) hs hl ?_
  have : xs.filterMap (fun x => some (f x)) = xs.map f := by
    induction xs with
    | nil => rfl
    | cons x xs ih => simp
  rw [this]; exact h
/-! ### types -/
section
theorem k_tt : kitB "tuple" "tuple" = some true := rfl
theorem k_ts : kitB "tuple" "str" = some false := rfl
theorem k_tl : kitB "tuple" "list" = some false := rfl
theorem k_ti : kitB "tuple" "int" = some false := rfl
theorem k_st : kitB "str" "tuple" = some false := rfl
theorem k_ss : kitB "str" "str" = some true := rfl
theorem k_sl : kitB "str" "list" = some false := rfl
theorem k_si : kitB "str" "int" = some false := rfl
theorem k_lt : kitB "list" "tuple" = some false := rfl
theorem k_ls : kitB "list" "str" = some false := rfl
theorem k_ll : kitB "list" "list" = some true := rfl
theorem k_li : kitB "list" "int" = some false := rfl
theorem k_it : kitB "int" "tuple" = some false := rfl
theorem k_is : kitB "int" "str" = some false := rfl
theorem k_il : kitB "int" "list" = some false := rfl
theorem k_ii : kitB "int" "int" = some true := rfl
theorem k_bt : kitB "bool" "tuple" = some false := rfl
theorem k_bs : kitB "bool" "str" = some false := rfl
theorem k_bl : kitB "bool" "list" = some false := rfl
theorem k_bi : kitB "bool" "int" = some true := rfl
theorem k_nt : kitB "NoneType" "tuple" = some false := rfl
theorem k_ns : kitB "NoneType" "str" = some false := rfl
theorem k_nl : kitB "NoneType" "list" = some false := rfl
theorem k_ni : kitB "NoneType" "int" = some false := rfl
theorem k_dt : kitB "dict" "tuple" = some false := rfl
theorem k_ds : kitB "dict" "str" = some false := rfl
theorem k_dl : kitB "dict" "list" = some false := rfl
theorem k_di : kitB "dict" "int" = some false := rfl
end
/-! ### equality of data -/
section
variable {K : PySem.W.Frag} [Tbs K]
end
theorem pvs_plain : ∀ f : Fo, PV.plainL f.pvs = true
  | .nil => rfl
  | .cons n ks r => by simp only [Fo.pvs, PV.plainL, PV.plain, pvs_plain ks, pvs_plain r, Bool.and_self]
theorem pvs_pd : ∀ f : Fo, PV.pdL f.pvs = f.data
  | .nil => rfl
  | .cons n ks r => by simp only [Fo.pvs, PV.pdL, PV.pd, pvs_pd ks, pvs_pd r, Fo.data]
theorem pv_plain (f : Fo) : f.pv.plain = true := pvs_plain f
theorem pv_lay {f : Fo} (hn : ∀ z ∈ f.nm, IsName z) : f.pv.pd.canLay0 = true := by
  show PyData.canLay0 (.tuple (PV.pdL f.pvs)) = true
  rw [PyData.canLay0, pvs_pd]; exact data_lay f hn
theorem pv_depth {f : Fo} {n : Nat} (h : f.dp ≤ n) : f.pv.pd.depth ≤ 2 * n + 1 := by
  show PyData.depth (.tuple (PV.pdL f.pvs)) ≤ _
  rw [PyData.depth, pvs_pd]
  have := data_depth f
  omega
end Tw
namespace Tw
open PySem PySem.Spec PyProof.Rows L2
section
variable {xs : List PV} {kvs : List (Key × PV)} {b : Bool} {i : Int} {z : Str} {P : Bool → Prop}
theorem tr_non : PV.tru .non P = P false := rfl
theorem tr_bl : PV.tru (.bl b) P = P b := rfl
theorem tr_int : PV.tru (.int i) P = P (i != 0) := rfl
theorem tr_str : PV.tru (.str z) P = (z.length ≤ sizeLine ∧ P ((z.length : Int) != 0)) := rfl
theorem tr_tup : PV.tru (.tup xs) P = P (!xs.isEmpty) := rfl
theorem tr_lst : PV.tru (.lst xs) P = P (!xs.isEmpty) := rfl
theorem tr_dic : PV.tru (.dic kvs) P = P (!kvs.isEmpty) := rfl
theorem in_non : PV.isN .non = true := rfl
theorem in_bl : PV.isN (.bl b) = false := rfl
theorem in_int : PV.isN (.int i) = false := rfl
theorem in_str : PV.isN (.str z) = false := rfl
theorem in_tup : PV.isN (.tup xs) = false := rfl
theorem in_lst : PV.isN (.lst xs) = false := rfl
theorem in_dic : PV.isN (.dic kvs) = false := rfl
end
section
variable {ρ : Env} {v : Nat} {vs sl : List Nat} {s : Str} {K : PySem.W.Frag} [Tbs K] {i : Nat} {x : PV} {xs : List PV} {is : List Nat} {P : PV → Env → Prop}
theorem we_nil : wipeE ρ [] = ρ := rfl
theorem we_cons : wipeE ρ (v :: vs) = (wipeE ρ vs).set v .no := rfl
theorem sl_name : (SG.name i : SG K).sl = [i] := rfl
theorem sl_tup : (SG.tup sl : SG K).sl = sl := rfl
theorem sl_unl : (SG.unl sl : SG K).sl = sl := rfl
theorem sa_nil : setAll ρ [] [] = ρ := rfl
theorem sa_cons : setAll ρ (i :: is) (x :: xs) = setAll (ρ.set i (.val x)) is xs := rfl
theorem pr_val {a : SE K} {PE : PEK} {Q : Sl → Env → Prop} : (PR.val a).wp PE ρ Q = a.wp PE ρ fun x ρ1 => Q (.val x) ρ1 := rfl
theorem pr_own {a : SN K} {PE : PEK} {Q : Sl → Env → Prop} : (PR.own a).wp PE ρ Q = a.wp PE ρ fun xs ρ1 => Q (.own xs) ρ1 := rfl
theorem st_app {y : PV} : startE (v + 1) (y :: xs) = .val y :: startE v xs := by
  unfold startE
  rw [List.map_cons, List.cons_append, List.length_cons, Nat.add_sub_add_right]
theorem st_nil : startE v [] = List.replicate v .no := by unfold startE; simp
theorem js_nil {PE : PEK} {Q : Str → Env → Prop} : wpJs (K := K) PE [] s ρ Q = Q s ρ := rfl
end
end Tw
set_option Elab.async false
set_option linter.all false
set_option maxRecDepth 100000
set_option maxHeartbeats 4000000
/-! The plain layer: what operations do of known values. -/
namespace Tw
open PySem PySem.Spec PyProof.Rows L2
/-- the own list of slot i -/
def owp (i : Nat) (ρ : Env) (P : List PV → Prop) : Prop :=
  match ρ[i]? with
  | some (.own xs) => P xs
  | _ => False
def dwp (i : Nat) (ρ : Env) (P : List (Key × PV) → Prop) : Prop :=
  match ρ[i]? with
  | some (.ownD xs) => P xs
  | _ => False
theorem owp_ex {i : Nat} {ρ : Env} {P : List PV → Prop} : (∃ xs, ρ[i]? = some (.own xs) ∧ P xs) = owp i ρ P := by
  apply propext
  unfold owp
  constructor
  · rintro ⟨xs, h, p⟩; rw [h]; exact p
  · intro h
    split at h
    · rename_i xs e; exact ⟨xs, e, h⟩
    · cases h
section
variable {K : PySem.W.Frag} [Tbs K] {P : PV → Prop} {i j : Int} {a b : Str} {xs ys : List PV} {PE : PEK} {ρ : Env} {PD : PEnds} {Q : PV → Env → Prop} {n : Nat} {k : Bool}
theorem c_i0 {f : Int → Int → Int} : (SO.i0 f : SO K).wp (.int i) (.int j) P = P (.int (f i j)) := by rw [w_SO_i0]; simp
theorem c_c0 {f : Int → Int → Bool} : (SO.c0 f : SO K).wp (.int i) (.int j) P = P (.bl (f i j)) := by rw [w_SO_c0]; simp
theorem c_iC {C : Int → Int → Prop} {f : Int → Int → Int} : (SO.iC C f : SO K).wp (.int i) (.int j) P = (C i j ∧ P (.int (f i j))) := by rw [w_SO_iC]; simp
theorem c_addS : (SO.addS : SO K).wp (.str a) (.str b) P = (a.length + b.length ≤ sizeLine ∧ P (.str (a ++ b))) := by rw [w_SO_addS]; simp
theorem c_repS : (SO.repS : SO K).wp (.str a) (.int j) P = (MulOk a j ∧ P (.str (Txt.mul a j))) := by rw [w_SO_repS]; simp
theorem c_catT : (SO.catT : SO K).wp (.tup xs) (.tup ys) P = (xs.length + ys.length ≤ sizeLine ∧ P (.tup (xs ++ ys))) := by rw [w_SO_catT]; simp
theorem c_ixS : (SO.ixS : SO K).wp (.str a) (.int j) P = (a.length ≤ sizeLine ∧ ∃ c, L2.atI a.cps.toList j = some c ∧ P (.str ⟨#[c]⟩)) := by rw [w_SO_ixS]; simp
theorem c_ixT : (SO.ixT : SO K).wp (.tup xs) (.int j) P = (∃ u, L2.atI xs j = some u ∧ P u) := by rw [w_SO_ixT]; simp
theorem c_ixL : (SO.ixL : SO K).wp (.lst xs) (.int j) P = (∃ u, L2.atI xs j = some u ∧ P u) := by rw [w_SO_ixL]; simp
theorem c_eq_ii : (SO.eq : SO K).wp (.int i) (.int j) P = P (.bl (decide (i = j))) := by rw [w_SO_eq]; simp [PV.sv, scal]
theorem c_eq_ss : (SO.eq : SO K).wp (.str a) (.str b) P = P (.bl (decide (a = b))) := by rw [w_SO_eq]; simp [PV.sv, scal]
theorem c_eq_ns : (SO.eq : SO K).wp .non (.str b) P = P (.bl false) := by rw [w_SO_eq]; simp [PV.sv, scal]
theorem c_eq_sn : (SO.eq : SO K).wp (.str b) .non P = P (.bl false) := by rw [w_SO_eq]; simp [PV.sv, scal]
theorem c_eq_bb {k' : Bool} : (SO.eq : SO K).wp (.bl k) (.bl k') P = P (.bl (decide (k = k'))) := by rw [w_SO_eq]; simp [PV.sv, scal]
theorem c_eq_nn : (SO.eq : SO K).wp .non .non P = P (.bl true) := by rw [w_SO_eq]; simp [PV.sv, scal]
theorem c_eq_ni : (SO.eq : SO K).wp .non (.int j) P = P (.bl false) := by rw [w_SO_eq]; simp [PV.sv, scal]
theorem c_eq_in : (SO.eq : SO K).wp (.int j) .non P = P (.bl false) := by rw [w_SO_eq]; simp [PV.sv, scal]
theorem c_ne_ii : (SO.ne : SO K).wp (.int i) (.int j) P = P (.bl (!decide (i = j))) := by rw [w_SO_ne]; simp [PV.sv, scal]
theorem c_ne_ss : (SO.ne : SO K).wp (.str a) (.str b) P = P (.bl (!decide (a = b))) := by rw [w_SO_ne]; simp [PV.sv, scal]
theorem c_ne_bb {k' : Bool} : (SO.ne : SO K).wp (.bl k) (.bl k') P = P (.bl (!decide (k = k'))) := by rw [w_SO_ne]; simp [PV.sv, scal]
theorem c_ne_ns : (SO.ne : SO K).wp .non (.str b) P = P (.bl true) := by rw [w_SO_ne]; simp [PV.sv, scal]
theorem c_ne_sn : (SO.ne : SO K).wp (.str b) .non P = P (.bl true) := by rw [w_SO_ne]; simp [PV.sv, scal]
theorem c_ne_nn : (SO.ne : SO K).wp .non .non P = P (.bl false) := by rw [w_SO_ne]; simp [PV.sv, scal]
theorem c_ne_ni : (SO.ne : SO K).wp .non (.int j) P = P (.bl true) := by rw [w_SO_ne]; simp [PV.sv, scal]
theorem c_ne_in : (SO.ne : SO K).wp (.int j) .non P = P (.bl true) := by rw [w_SO_ne]; simp [PV.sv, scal]
theorem c_inST {neg : Bool} {zs : List Str} : (SO.inS neg : SO K).wp (.str a) (sT zs) P = P (.bl (neg != decide (a ∈ zs))) := by
  rw [w_SO_inS]; apply propext; constructor
  · rintro ⟨m, ws, h1, h2, h3⟩
    cases h1
    rcases h2 with h2 | h2
    · have e : zs = ws := map_inj0 (PV.tup.inj h2)
      rw [e]; exact h3
    · cases h2
  · intro h; exact ⟨a, zs, rfl, .inl rfl, h⟩
where map_inj0 : ∀ {x y : List Str}, x.map PV.str = y.map PV.str → x = y
  | [], [], _ => rfl
  | [], _ :: _, h => by cases h
  | _ :: _, [], h => by cases h
  | p :: x, q :: y, h => by
    rw [List.map_cons, List.map_cons] at h
    obtain ⟨h1, h2⟩ := List.cons.inj h
    cases h1
    rw [map_inj0 h2]
theorem c_inSL {neg : Bool} {zs : List Str} : (SO.inS neg : SO K).wp (.str a) (sL zs) P = P (.bl (neg != decide (a ∈ zs))) := by
  rw [w_SO_inS]; apply propext; constructor
  · rintro ⟨m, ws, h1, h2, h3⟩
    cases h1
    rcases h2 with h2 | h2
    · cases h2
    · have e : zs = ws := c_inST.map_inj0 (PV.lst.inj h2)
      rw [e]; exact h3
  · intro h; exact ⟨a, zs, rfl, .inr rfl, h⟩
theorem c_lenS : (SB.lenS : SB K).wp [.str a] P = (a.length ≤ sizeLine ∧ P (.int a.length)) := by rw [w_SB_lenS]; simp
theorem c_lenQt : (SB.lenQ : SB K).wp [.tup xs] P = P (.int xs.length) := by rw [w_SB_lenQ]; simp
theorem c_lenQl : (SB.lenQ : SB K).wp [.lst xs] P = P (.int xs.length) := by rw [w_SB_lenQ]; simp
theorem c_abs : (SB.abs : SB K).wp [.int i] P = P (.int (if i < 0 then -i else i)) := by rw [w_SB_abs]; simp
theorem c_int1i : (SB.int1 : SB K).wp [.int i] P = P (.int i) := by rw [w_SB_int1]; simp
theorem c_int1b : (SB.int1 : SB K).wp [.bl k] P = P (.int (if k then 1 else 0)) := by rw [w_SB_int1]; simp
theorem c_tupl : (SB.tupleOf : SB K).wp [.lst xs] P = P (.tup xs) := by rw [w_SB_tupleOf]; simp
theorem c_tupt : (SB.tupleOf : SB K).wp [.tup xs] P = P (.tup xs) := by rw [w_SB_tupleOf]; simp
theorem c_max2 : (SB.max2 : SB K).wp [.int i, .int j] P = P (.int (if j > i then j else i)) := by
  rw [w_SB_max2]; apply propext; exact ⟨fun ⟨_, _, e, h⟩ => by cases e; exact h, fun h => ⟨_, _, rfl, h⟩⟩
theorem c_min2 : (SB.min2 : SB K).wp [.int i, .int j] P = P (.int (if j < i then j else i)) := by
  rw [w_SB_min2]; apply propext; exact ⟨fun ⟨_, _, e, h⟩ => by cases e; exact h, fun h => ⟨_, _, rfl, h⟩⟩
theorem c_neg : (SU.neg : SU K).wp (.int i) P = P (.int (-i)) := by rw [w_SU_neg]; simp
/-- what a test does of a value -/
def tst (x : PV) (R : Bool → Prop) : Prop := ∃ k, x = .bl k ∧ R k
theorem c_tst {R : Bool → Prop} : tst (.bl k) R = R k := by unfold tst; simp
def asI (x : PV) (R : Int → Prop) : Prop := ∃ k, x = .int k ∧ R k
theorem c_asI {R : Int → Prop} : asI (.int i) R = R i := by unfold asI; simp
def asS (x : PV) (R : Str → Prop) : Prop := ∃ k, x = .str k ∧ R k
theorem c_asS {R : Str → Prop} : asS (.str a) R = R a := by unfold asS; simp
def asT (x : PV) (R : List PV → Prop) : Prop := ∃ k, x = .tup k ∧ R k
theorem c_asT {R : List PV → Prop} : asT (.tup xs) R = R xs := by unfold asT; simp
def asL (x : PV) (R : List PV → Prop) : Prop := ∃ k, x = .lst k ∧ R k
theorem c_asL {R : List PV → Prop} : asL (.lst xs) R = R xs := by unfold asL; simp
def asQ (x : PV) (R : List PV → Prop) : Prop := ∃ k, (x = .lst k ∨ x = .tup k) ∧ R k
theorem c_asQl {R : List PV → Prop} : asQ (.lst xs) R = R xs := by unfold asQ; simp
theorem c_asQt {R : List PV → Prop} : asQ (.tup xs) R = R xs := by unfold asQ; simp
def ofT (T : String) (x : PV) (R : Bool → Prop) : Prop := ∃ t0 b, x.tyN = some t0 ∧ kitB t0 T = some b ∧ R b
theorem of_t {R : Bool → Prop} {T : String} (h : kitB "tuple" T = some k) : ofT T (.tup xs) R = R k := by unfold ofT; cases k <;> simp [PV.tyN, h]
theorem of_s {R : Bool → Prop} {T : String} (h : kitB "str" T = some k) : ofT T (.str a) R = R k := by unfold ofT; cases k <;> simp [PV.tyN, h]
theorem of_l {R : Bool → Prop} {T : String} (h : kitB "list" T = some k) : ofT T (.lst xs) R = R k := by unfold ofT; cases k <;> simp [PV.tyN, h]
theorem of_i {R : Bool → Prop} {T : String} (h : kitB "int" T = some k) : ofT T (.int i) R = R k := by unfold ofT; cases k <;> simp [PV.tyN, h]
theorem of_b {R : Bool → Prop} {T : String} {v : Bool} (h : kitB "bool" T = some k) : ofT T (.bl v) R = R k := by unfold ofT; cases k <;> simp [PV.tyN, h]
theorem of_n {R : Bool → Prop} {T : String} (h : kitB "NoneType" T = some k) : ofT T .non R = R k := by unfold ofT; cases k <;> simp [PV.tyN, h]
theorem of_d {R : Bool → Prop} {T : String} {kvs : List (Key × PV)} (h : kitB "dict" T = some k) : ofT T (.dic kvs) R = R k := by unfold ofT; cases k <;> simp [PV.tyN, h]
section
variable {R : Bool → Prop} {v : Bool} {kvs : List (Key × PV)}
theorem o_tt : ofT "tuple" (.tup xs) R = R true := of_t k_tt
theorem o_ts : ofT "str" (.tup xs) R = R false := of_t k_ts
theorem o_tl : ofT "list" (.tup xs) R = R false := of_t k_tl
theorem o_ti : ofT "int" (.tup xs) R = R false := of_t k_ti
theorem o_st : ofT "tuple" (.str a) R = R false := of_s k_st
theorem o_ss : ofT "str" (.str a) R = R true := of_s k_ss
theorem o_sl_ : ofT "list" (.str a) R = R false := of_s k_sl
theorem o_si : ofT "int" (.str a) R = R false := of_s k_si
theorem o_lt : ofT "tuple" (.lst xs) R = R false := of_l k_lt
theorem o_ls : ofT "str" (.lst xs) R = R false := of_l k_ls
theorem o_ll : ofT "list" (.lst xs) R = R true := of_l k_ll
theorem o_li : ofT "int" (.lst xs) R = R false := of_l k_li
theorem o_it : ofT "tuple" (.int i) R = R false := of_i k_it
theorem o_is : ofT "str" (.int i) R = R false := of_i k_is
theorem o_il : ofT "list" (.int i) R = R false := of_i k_il
theorem o_ii : ofT "int" (.int i) R = R true := of_i k_ii
theorem o_bt : ofT "tuple" (.bl v) R = R false := of_b k_bt
theorem o_bs : ofT "str" (.bl v) R = R false := of_b k_bs
theorem o_bl_ : ofT "list" (.bl v) R = R false := of_b k_bl
theorem o_bi : ofT "int" (.bl v) R = R true := of_b k_bi
theorem o_nt : ofT "tuple" .non R = R false := of_n k_nt
theorem o_ns : ofT "str" .non R = R false := of_n k_ns
theorem o_nl : ofT "list" .non R = R false := of_n k_nl
theorem o_ni : ofT "int" .non R = R false := of_n k_ni
theorem o_dt : ofT "tuple" (.dic kvs) R = R false := of_d k_dt
theorem o_ds : ofT "str" (.dic kvs) R = R false := of_d k_ds
theorem o_dl : ofT "list" (.dic kvs) R = R false := of_d k_dl
theorem o_di : ofT "int" (.dic kvs) R = R false := of_d k_di
end
/-! rows that hide their choice -/
theorem v_test {t : SE K} {R : Bool → Env → Prop} : (ST.test t).wp PE ρ R = t.wp PE ρ fun x ρ1 => tst x fun k => R k ρ1 := rfl
theorem v_b {t : SE K} {R : Bool → Env → Prop} : (ST.b t).wp PE ρ R = t.wp PE ρ fun x ρ1 => tst x fun k => R k ρ1 := rfl
theorem v_andV {s t : SE K} : (SE.andV s t).wp PE ρ Q = s.wp PE ρ fun x ρ1 => tst x fun c => if c = true then t.wp PE ρ1 Q else Q (.bl false) ρ1 := rfl
theorem v_orV {s t : SE K} : (SE.orV s t).wp PE ρ Q = s.wp PE ρ fun x ρ1 => tst x fun c => if c = true then Q (.bl true) ρ1 else t.wp PE ρ1 Q := rfl
theorem v_notV {s : SE K} : (SE.notV s).wp PE ρ Q = s.wp PE ρ fun x ρ1 => tst x fun c => Q (.bl (!c)) ρ1 := rfl
theorem v_isi {T : String} {s : SE K} : (SE.isi T s).wp PE ρ Q = s.wp PE ρ fun x ρ1 => ofT T x fun b => Q (.bl b) ρ1 := rfl
theorem v_at {s : SE K} {R : Option Int → Env → Prop} : (SP_.at_ s).wp PE ρ R = s.wp PE ρ fun x ρ1 => asI x fun i => R (some i) ρ1 := rfl
theorem v_slS {s : SE K} {lo hi : SP_ K} : (SE.slS s lo hi).wp PE ρ Q = s.wp PE ρ fun x ρ1 => lo.wp PE ρ1 fun l ρ2 => hi.wp PE ρ2 fun h ρ3 => asS x fun z => z.length ≤ sizeLine ∧ Q (.str (cutS z l h)) ρ3 := rfl
theorem v_slT {s : SE K} {lo hi : SP_ K} : (SE.slT s lo hi).wp PE ρ Q = s.wp PE ρ fun x ρ1 => lo.wp PE ρ1 fun l ρ2 => hi.wp PE ρ2 fun h ρ3 => asT x fun z => Q (.tup (cutP z l h)) ρ3 := rfl
theorem v_slL {s : SE K} {lo hi : SP_ K} {R : List PV → Env → Prop} : (SN.slL s lo hi).wp PE ρ R = s.wp PE ρ fun x ρ1 => lo.wp PE ρ1 fun l ρ2 => hi.wp PE ρ2 fun h ρ3 => asL x fun z => R (cutP z l h) ρ3 := rfl
theorem v_listOf {s : SE K} {R : List PV → Env → Prop} : (SN.listOf s).wp PE ρ R = s.wp PE ρ fun x ρ1 => asQ x fun z => R z ρ1 := rfl
theorem v_revL {s : SE K} {R : List PV → Env → Prop} : (SN.revL s).wp PE ρ R = s.wp PE ρ fun x ρ1 => asL x fun z => R z.reverse ρ1 := rfl
theorem v_revT {s : SE K} : (SE.revT s).wp PE ρ Q = s.wp PE ρ fun x ρ1 => asT x fun z => Q (.tup z.reverse) ρ1 := rfl
theorem v_cat {s t : SE K} {R : List PV → Env → Prop} : (SN.cat s t).wp PE ρ R = s.wp PE ρ fun x ρ1 => t.wp PE ρ1 fun y ρ2 => asL x fun xs => asL y fun ys => xs.length + ys.length ≤ sizeLine ∧ R (xs ++ ys) ρ2 := by
  rw [w_SN_cat]; unfold asL; congr; funext x ρ1; congr; funext y ρ2; simp
theorem v_rep {s t : SE K} {R : List PV → Env → Prop} : (SN.rep s t).wp PE ρ R = s.wp PE ρ fun x ρ1 => t.wp PE ρ1 fun y ρ2 => asL x fun xs => asI y fun k => -(2 ^ 63) ≤ k ∧ k < 2 ^ 63 ∧ xs.length * k.toNat ≤ sizeLine ∧ R (List.replicate k.toNat xs).flatten ρ2 := by
  rw [w_SN_rep]; unfold asL asI; congr; funext x ρ1; congr; funext y ρ2; simp
theorem v_ilist {s : SE K} {R : List PV → Env → Prop} : (SI.list s).wp PE ρ R = s.wp PE ρ fun x ρ1 => asL x fun z => R z ρ1 := rfl
theorem v_itup {s : SE K} {R : List PV → Env → Prop} : (SI.tup s).wp PE ρ R = s.wp PE ρ fun x ρ1 => asT x fun z => R z ρ1 := rfl
theorem v_istr {s : SE K} {R : List PV → Env → Prop} : (SI.str s).wp PE ρ R = s.wp PE ρ fun x ρ1 => asS x fun z => R (z.cps.toList.map fun c => .str ⟨#[c]⟩) ρ1 := rfl
theorem v_enumL {s : SE K} {R : List PV → Env → Prop} : (SI.enumL s).wp PE ρ R = s.wp PE ρ fun x ρ1 => asL x fun z => R (enumP z) ρ1 := rfl
theorem v_enumT {s : SE K} {R : List PV → Env → Prop} : (SI.enumT s).wp PE ρ R = s.wp PE ρ fun x ρ1 => asT x fun z => R (enumP z) ρ1 := rfl
def rngOf (xs : List PV) (R : List PV → Prop) : Prop := ∃ j : Int, xs = [.int j] ∧ -(2 ^ 62) ≤ j ∧ j < 2 ^ 62 ∧ R ((List.range j.toNat).map fun i => .int (i : Nat))
def rngOf2 (xs : List PV) (R : List PV → Prop) : Prop := ∃ i j : Int, xs = [.int i, .int j] ∧ -(2 ^ 62) ≤ i ∧ i < 2 ^ 62 ∧ -(2 ^ 62) ≤ j ∧ j < 2 ^ 62 ∧ R ((List.range (j - i).toNat).map fun k => .int (i + (k : Nat)))
theorem v_rng1 {s : SA K} {R : List PV → Env → Prop} : (SI.rng1 s).wp PE ρ R = s.wp PE ρ fun x ρ1 => rngOf x fun z => R z ρ1 := rfl
theorem v_rng2 {s : SA K} {R : List PV → Env → Prop} : (SI.rng2 s).wp PE ρ R = s.wp PE ρ fun x ρ1 => rngOf2 x fun z => R z ρ1 := rfl
theorem c_rng1 {R : List PV → Prop} : rngOf [.int j] R = (-(2 ^ 62) ≤ j ∧ j < 2 ^ 62 ∧ R ((List.range j.toNat).map fun i => .int (i : Nat))) := by unfold rngOf; simp
theorem c_rng2 {R : List PV → Prop} : rngOf2 [.int i, .int j] R = (-(2 ^ 62) ≤ i ∧ i < 2 ^ 62 ∧ -(2 ^ 62) ≤ j ∧ j < 2 ^ 62 ∧ R ((List.range (j - i).toNat).map fun k => .int (i + (k : Nat)))) := by
  unfold rngOf2; apply propext; exact ⟨fun ⟨_, _, e, h⟩ => by cases e; exact h, fun h => ⟨_, _, rfl, h⟩⟩
/-- two lists or two tuples, zipped -/
def zipOf (x y : PV) (R : List PV → Prop) : Prop := ∃ xs ys, ((x = .lst xs ∧ y = .lst ys) ∨ (x = .tup xs ∧ y = .tup ys)) ∧ R (zipP xs ys)
theorem v_zipA {s t : SE K} {R : List PV → Env → Prop} : (SI.zipA s t).wp PE ρ R = s.wp PE ρ fun x ρ1 => t.wp PE ρ1 fun y ρ2 => zipOf x y fun z => R z ρ2 := rfl
theorem c_zipt {R : List PV → Prop} : zipOf (.tup xs) (.tup ys) R = R (zipP xs ys) := by
  unfold zipOf; apply propext; constructor
  · rintro ⟨_, _, h | h, q⟩ <;> cases h.1
    cases h.2; exact q
  · exact fun h => ⟨_, _, .inr ⟨rfl, rfl⟩, h⟩
theorem c_zipl {R : List PV → Prop} : zipOf (.lst xs) (.lst ys) R = R (zipP xs ys) := by
  unfold zipOf; apply propext; constructor
  · rintro ⟨_, _, h | h, q⟩ <;> cases h.1
    cases h.2; exact q
  · exact fun h => ⟨_, _, .inl ⟨rfl, rfl⟩, h⟩
/-- what a target of several names takes -/
def unp (x : PV) (m : Nat) (R : List PV → Prop) : Prop := ∃ xs, x = .tup xs ∧ xs.length = m ∧ R xs
theorem v_gtup {sl : List Nat} {x : PV} {R : Env → Prop} : (SG.tup sl : SG K).wp x ρ R = unp x sl.length fun xs => R (setAll ρ sl xs) := rfl
theorem c_unp {m : Nat} {R : List PV → Prop} : unp (.tup xs) m R = (xs.length = m ∧ R xs) := by unfold unp; simp
def unpL (x : PV) (m : Nat) (R : List PV → Prop) : Prop := ∃ xs, x = .lst xs ∧ xs.length = m ∧ R xs
theorem v_gunl {sl : List Nat} {x : PV} {R : Env → Prop} : (SG.unl sl : SG K).wp x ρ R = unpL x sl.length fun xs => R (setAll ρ sl xs) := rfl
theorem c_unpL {m : Nat} {R : List PV → Prop} : unpL (.lst xs) m R = (xs.length = m ∧ R xs) := by unfold unpL; simp
/-- formatted -/
def fmtOf (x : PV) (R : PV → Prop) : Prop := (∃ y : Str, x = .str y ∧ y.length ≤ sizeLine ∧ R (.str y)) ∨ ∃ i : Int, x = .int i ∧ i.natAbs.log2 < 1920 ∧ R (.str (toString i))
theorem v_fmt {s : SE K} : (SE.fmt s).wp PE ρ Q = s.wp PE ρ fun x ρ1 => fmtOf x fun y => Q y ρ1 := rfl
theorem c_fmts {R : PV → Prop} : fmtOf (.str a) R = (a.length ≤ sizeLine ∧ R (.str a)) := by unfold fmtOf; simp
theorem c_fmti {R : PV → Prop} : fmtOf (.int i) R = (i.natAbs.log2 < 1920 ∧ R (.str (toString i))) := by unfold fmtOf; simp
theorem v_js {t : SE K} {ts : List (SE K)} {R : Str → Env → Prop} : wpJs PE (t :: ts) a ρ R = t.wp PE ρ fun x ρ1 => asS x fun y => (a ++ y).length ≤ sizeLine ∧ wpJs PE ts (a ++ y) ρ1 R := rfl
/-! own lists -/
theorem v_lenO : (SE.lenO n : SE K).wp PE ρ Q = owp n ρ fun xs => Q (.int xs.length) ρ := by rw [w_SE_lenO]; exact owp_ex
theorem v_tupO : (SE.tupO n : SE K).wp PE ρ Q = owp n ρ fun xs => Q (.tup xs) ρ := by rw [w_SE_tupO]; exact owp_ex
theorem v_listO {R : List PV → Env → Prop} : (SN.listO n : SN K).wp PE ρ R = owp n ρ fun xs => R xs ρ := by rw [w_SN_listO]; exact owp_ex
theorem v_truO {R : Bool → Env → Prop} : (ST.truO n : ST K).wp PE ρ R = owp n ρ fun xs => R (!xs.isEmpty) ρ := by rw [w_ST_truO]; exact owp_ex
theorem v_eqEO {neg : Bool} : (SE.eqEO neg n : SE K).wp PE ρ Q = owp n ρ fun xs => Q (.bl (neg != xs.isEmpty)) ρ := by rw [w_SE_eqEO]; exact owp_ex
theorem v_append {s : SE K} : (SS.append n s).wp PE PD ρ = owp n ρ fun _ => s.wp PE ρ fun y ρ1 => owp n ρ1 fun xs => xs.length < sizeLine ∧ PD.nx (ρ1.set n (.own (xs ++ [y]))) := by
  rw [w_SS_append, ← owp_ex]; simp only [owp_ex]
theorem v_ixO {s : SE K} : (SE.ixO n s).wp PE ρ Q = owp n ρ fun _ => s.wp PE ρ fun y ρ1 => owp n ρ1 fun xs => asI y fun k => ∃ u, L2.atI xs k = some u ∧ Q u ρ1 := by
  rw [w_SE_ixO, ← owp_ex]; simp only [← owp_ex, asI]; congr; funext xs0; congr; congr; funext y ρ1; simp
theorem v_extendT {s : SE K} : (SS.extendT n s).wp PE PD ρ = owp n ρ fun _ => s.wp PE ρ fun y ρ1 => owp n ρ1 fun xs => asT y fun ys => xs.length + ys.length ≤ sizeLine ∧ PD.nx (ρ1.set n (.own (xs ++ ys))) := by
  rw [w_SS_extendT, ← owp_ex]; simp only [← owp_ex, asT]; congr; funext xs0; congr; congr; funext y ρ1; simp
theorem v_extendL {s : SE K} : (SS.extendL n s).wp PE PD ρ = owp n ρ fun _ => s.wp PE ρ fun y ρ1 => owp n ρ1 fun xs => asL y fun ys => xs.length + ys.length ≤ sizeLine ∧ PD.nx (ρ1.set n (.own (xs ++ ys))) := by
  rw [w_SS_extendL, ← owp_ex]; simp only [← owp_ex, asL]; congr; funext xs0; congr; congr; funext y ρ1; simp
theorem v_insert {s t : SE K} : (SS.insert n s t).wp PE PD ρ = owp n ρ fun _ => s.wp PE ρ fun y ρ1 => t.wp PE ρ1 fun z ρ2 => owp n ρ2 fun xs => asI y fun k => xs.length < sizeLine ∧ 0 ≤ k ∧ k < 2 ^ 63 ∧ PD.nx (ρ2.set n (.own (xs.take k.toNat ++ [z] ++ xs.drop k.toNat))) := by
  rw [w_SS_insert, ← owp_ex]; simp only [← owp_ex, asI]; congr; funext xs0; congr; congr; funext y ρ1; congr; funext z ρ2; simp
theorem v_setL {s t : SE K} : (SS.setL n s t).wp PE PD ρ = t.wp PE ρ fun z ρ1 => owp n ρ1 fun _ => s.wp PE ρ1 fun y ρ2 => owp n ρ2 fun xs => asI y fun m => ∃ j, ixN xs.length m = some j ∧ PD.nx (ρ2.set n (.own (xs.set j z))) := by
  rw [w_SS_setL]; simp only [← owp_ex, asI]; congr; funext z ρ1; congr; funext xs0; congr; congr; funext y ρ2; simp
theorem v_inO {neg : Bool} {s : SE K} : (SE.inO neg s n).wp PE ρ Q = s.wp PE ρ fun x ρ1 => ∃ (m : Str) (zs : List Str), x = .str m ∧ ρ1[n]? = some (.own (zs.map .str)) ∧ Q (.bl (neg != decide (m ∈ zs))) ρ1 := rfl
end
section
variable {P : PV → Env → Prop} {x : PV} {xs : List PV} {ds : List (Key × PV)} {ρ : Env} {s : Sl} {n : Nat} {R : List PV → Prop} {D : List (Key × PV) → Prop}
theorem v_v0 : vwp 0 (.val x :: ρ) P = P x (.val x :: ρ) := rfl
theorem v_v0o : vwp 0 (.own xs :: ρ) P = P (.lst xs) (.val (.lst xs) :: ρ) := rfl
theorem v_v0d : vwp 0 (.ownD ds :: ρ) P = P (.dic ds) (.val (.dic ds) :: ρ) := rfl
theorem v_vs : vwp (n + 1) (s :: ρ) P = vwp n ρ fun x ρ' => P x (s :: ρ') := by
  unfold vwp
  rw [List.getElem?_cons_succ]
  cases ρ[n]? with
  | none => rfl
  | some t => cases t <;> rfl
theorem v_o0 : owp 0 (.own xs :: ρ) R = R xs := rfl
theorem v_os : owp (n + 1) (s :: ρ) R = owp n ρ R := by unfold owp; rw [List.getElem?_cons_succ]
theorem v_d0 : dwp 0 (.ownD ds :: ρ) D = D ds := rfl
theorem v_ds : dwp (n + 1) (s :: ρ) D = dwp n ρ D := by unfold dwp; rw [List.getElem?_cons_succ]
end
section
variable {α : Type} {xs : List α} {i j : Int}
theorem sIx_of {n d : Nat} {i : Int} (h : 0 ≤ i) : HT.sIx n d (some i) = min i.toNat n := by
  unfold HT.sIx
  simp only []
  split <;> omega
theorem cutP_to (h : 0 ≤ i) : cutP xs none (some i) = xs.take i.toNat := by
  unfold cutP
  rw [sIx_of h]
  show (xs.drop 0).take (min i.toNat xs.length - 0) = _
  rw [List.drop_zero, Nat.sub_zero, Nat.min_comm, ← List.take_take]
  exact List.take_of_length_le (by rw [List.length_take]; omega)
end
end Tw
set_option Elab.async false
set_option linter.all false
set_option maxRecDepth 100000
set_option maxHeartbeats 4000000
/-! rows of any items: where they cease to be the row of a wood -/
namespace Tw
open PySem PySem.Spec PyProof.Rows L2 TL
local macro_rules | `(tactic| walk_at "rd") => `(tactic| try simp only [o_op, o_un, o_var, o_c, o_cb, o_call, o_cons, o_nil, o_tup, o_lst, o_I0, o_I, o_int1, o_intb, o_abs, o_test, o_b, o_not, o_and, o_or, o_andV, o_orV, o_notV, o_ifE, o_isN, o_notN, o_eq, o_ne, o_seq, o_next, o_asg, o_name, o_sub, o_par, o_par3, o_drop, o_ret, o_retN, o_ifS, o_sl, o_noPart, o_part, o_bm, o_bm0, o_m0, o_m1, o_dget, o_dput, o_din, o_dnotin, o_listKeys, e_bl, e_int, e_str, e_some, e_two, e_three, o_for, o_lc, o_iList, o_iTup, o_iRng1, e_int1, e_ref, o_yes, o_wipe0, o_wipe1, o_disp, o_dnew, o_pairs0, o_pairs1, o_lock, o_keysM, o_gtup, o_gcons, o_gnil, o_rU, o_tru, o_revT, o_enumT, o_from, true_and, if_pos, List.getElem?_cons_zero, List.getElem?_cons_succ, List.set_cons_zero, List.set_cons_succ, List.append_nil])
/-! ### none: it is the row of a wood -/
/-- the ends that led to this state -/
def bak : List (Fo × Str) → Fo → List En
  | [], c => c.erow
  | (l, n) :: zs, c => bak zs l ++ (true, n) :: c.erow
def DpK : List (Fo × Str) → Fo → Prop
  | [], c => c.dp ≤ 100
  | (l, n) :: zs, c => c.dp + (zs.length + 1) ≤ 100 ∧ DpK zs l
theorem DpK.here : ∀ {zs : List (Fo × Str)} {c : Fo}, DpK zs c → c.dp + zs.length ≤ 100
  | [], c, h => h
  | (l, n) :: zs, c, h => h.1
theorem DpK.set : ∀ {zs : List (Fo × Str)} {c d : Fo}, DpK zs c → d.dp + zs.length ≤ 100 → DpK zs d
  | [], c, d, _, h => h
  | (l, n) :: zs, c, d, h, h2 => ⟨h2, h.2⟩
theorem erow_app : ∀ f g : Fo, (f.app g).erow = f.erow ++ g.erow
  | .nil, _ => rfl
  | .cons n ks r, g => by simp only [Fo.app, Fo.erow, erow_app r g, List.cons_append, List.append_assoc]
theorem bak_app : ∀ (zs : List (Fo × Str)) (c d : Fo), bak zs (c.app d) = bak zs c ++ d.erow
  | [], c, d => erow_app c d
  | (l, n) :: zs, c, d => by simp only [bak, erow_app, List.append_assoc, List.cons_append]
end Tw
set_option Elab.async false
set_option linter.all false
set_option maxRecDepth 100000
set_option maxHeartbeats 4000000
/-! the program's bad place of any row; wood_of, which may raise -/
namespace Tw
open PySem PySem.Spec PyProof.Rows L2 TL
local macro_rules | `(tactic| walk_at "rd") => `(tactic| try simp only [o_op, o_un, o_var, o_c, o_cb, o_call, o_cons, o_nil, o_tup, o_lst, o_I0, o_I, o_int1, o_intb, o_abs, o_test, o_b, o_not, o_and, o_or, o_andV, o_orV, o_notV, o_ifE, o_isN, o_notN, o_eq, o_ne, o_seq, o_next, o_asg, o_name, o_sub, o_par, o_par3, o_drop, o_ret, o_retN, o_ifS, o_sl, o_noPart, o_part, o_bm, o_bm0, o_m0, o_m1, o_dget, o_dput, o_din, o_dnotin, o_listKeys, e_bl, e_int, e_str, e_some, e_two, e_three, o_for, o_lc, o_iList, o_iTup, o_iRng1, e_int1, e_ref, o_yes, o_wipe0, o_wipe1, o_disp, o_dnew, o_pairs0, o_pairs1, o_lock, o_keysM, o_gtup, o_gcons, o_gnil, o_rU, o_tru, o_revT, o_enumT, o_from, true_and, if_pos, List.getElem?_cons_zero, List.getElem?_cons_succ, List.set_cons_zero, List.set_cons_succ, List.append_nil])
section
variable {K : PySem.W.Frag}
end
end Tw
set_option Elab.async false
set_option linter.all false
set_option maxRecDepth 100000
set_option maxHeartbeats 4000000
/-! filled, wood_of of any value, plainly; the law k09 -/
namespace Tw
open PySem PySem.Spec PyProof.Rows L2
local macro_rules | `(tactic| walk_at "wp") => `(tactic| try simp (config := { maxSteps := 1000000 }) only [↓w_SE_var, ↓w_SE_non, ↓w_SE_bl, ↓w_SE_int, ↓w_SE_str, ↓w_SE_op, ↓w_SE_un, ↓w_SE_cb, ↓w_SE_tup, ↓w_SE_lst, ↓w_SE_ifE, ↓w_SE_isN, ↓w_SE_notN, ↓w_SA_nil, ↓w_SA_cons, ↓w_ST_not, ↓w_ST_and, ↓w_ST_or, ↓w_ST_yes, ↓w_ST_tru, ↓w_SG_name, ↓w_SS_next, ↓w_SS_brk, ↓w_SS_cont, ↓w_SS_never, ↓w_SS_seq, ↓w_SS_cut, ↓w_SS_asg, ↓w_SS_drop, ↓w_SS_ret, ↓w_SS_retN, ↓w_SS_ifS, ↓w_SS_for_, ↓w_SS_while_, ↓w_SN_lst, ↓w_SE_nl, ↓w_SS_own, ↓w_SN_lc, ↓w_SE_call, ↓w_SE_callS, ↓w_SE_pop, ↓w_SP__no, ↓w_SS_raise0, ↓w_SS_raise1, ↓w_SS_raise2, ↓w_SS_tryO, ↓w_SS_tryA, ↓w_SS_tryM, ↓w_SE_xf, ↓w_SE_isE, ↓w_SE_popAt, ↓w_SN_slO, ↓w_SN_sortedS, ↓w_SN_sortedI, ↓w_SS_asg2, ↓w_SS_par, ↓w_SE_joined, ↓w_SE_join, ↓w_SE_txtB, ↓w_SE_lenSetT, ↓w_SE_chain, ↓w_SO_inSign, ↓w_SO_eqE, ↓w_SB_all_, ↓w_SB_repr, ↓c_i0, ↓c_c0, ↓c_iC, ↓c_addS, ↓c_repS, ↓c_catT, ↓c_ixS, ↓c_ixT, ↓c_ixL, ↓c_eq_ii, ↓c_eq_ss, ↓c_eq_ns, ↓c_eq_sn, ↓c_eq_bb, ↓c_eq_nn, ↓c_eq_ni, ↓c_eq_in, ↓c_ne_ii, ↓c_ne_ss, ↓c_ne_bb, ↓c_ne_ns, ↓c_ne_sn, ↓c_ne_nn, ↓c_ne_ni, ↓c_ne_in, ↓c_inST, ↓c_inSL, ↓c_lenS, ↓c_lenQt, ↓c_lenQl, ↓c_abs, ↓c_int1i, ↓c_int1b, ↓c_tupl, ↓c_tupt, ↓c_max2, ↓c_min2, ↓c_neg, ↓c_tst, ↓c_asI, ↓c_asS, ↓c_asT, ↓c_asL, ↓c_asQl, ↓c_asQt, ↓o_tt, ↓o_ts, ↓o_tl, ↓o_ti, ↓o_st, ↓o_ss, ↓o_sl_, ↓o_si, ↓o_lt, ↓o_ls, ↓o_ll, ↓o_li, ↓o_it, ↓o_is, ↓o_il, ↓o_ii, ↓o_bt, ↓o_bs, ↓o_bl_, ↓o_bi, ↓o_nt, ↓o_ns, ↓o_nl, ↓o_ni, ↓o_dt, ↓o_ds, ↓o_dl, ↓o_di, ↓v_test, ↓v_b, ↓v_andV, ↓v_orV, ↓v_notV, ↓v_isi, ↓v_at, ↓v_slS, ↓v_slT, ↓v_slL, ↓v_listOf, ↓v_revL, ↓v_revT, ↓v_cat, ↓v_rep, ↓v_ilist, ↓v_itup, ↓v_istr, ↓v_enumL, ↓v_enumT, ↓v_rng1, ↓v_rng2, ↓c_rng1, ↓c_rng2, ↓v_zipA, ↓c_zipt, ↓c_zipl, ↓v_gtup, ↓c_unp, ↓v_gunl, ↓c_unpL, ↓v_fmt, ↓c_fmts, ↓c_fmti, ↓v_js, ↓v_lenO, ↓v_tupO, ↓v_listO, ↓v_truO, ↓v_eqEO, ↓v_append, ↓v_ixO, ↓v_extendT, ↓v_extendL, ↓v_insert, ↓v_setL, ↓v_inO, ↓v_v0, ↓v_v0o, ↓v_v0d, ↓v_vs, ↓v_o0, ↓v_os, ↓v_d0, ↓v_ds, tr_non, tr_bl, tr_int, tr_str, tr_tup, tr_lst, tr_dic, in_non, in_bl, in_int, in_str, in_tup, in_lst, in_dic, we_nil, we_cons, sl_name, sl_tup, sl_unl, sa_nil, sa_cons, pr_val, pr_own, st_app, st_nil, js_nil, ↓w_for0, ↓w_for1, List.getElem?_cons_zero, List.getElem?_cons_succ, List.set_cons_zero, List.set_cons_succ, List.length_cons, List.length_nil, List.replicate_succ, List.replicate_zero, if_true, Bool.not_true, Bool.not_false, Bool.false_eq_true, if_false, ite_true, ite_false, decide_true, decide_false, Nat.reduceSub, Nat.reduceAdd, Nat.zero_add, true_and, and_true])
end Tw
set_option Elab.async false
set_option linter.all false
set_option maxRecDepth 100000
set_option maxHeartbeats 4000000
/-! wood_of of any value, filled -/
namespace Tw
open PySem PySem.Spec PyProof.Rows L2
local macro_rules | `(tactic| walk_at "wp") => `(tactic| try simp (config := { maxSteps := 1000000 }) only [↓w_SE_var, ↓w_SE_non, ↓w_SE_bl, ↓w_SE_int, ↓w_SE_str, ↓w_SE_op, ↓w_SE_un, ↓w_SE_cb, ↓w_SE_tup, ↓w_SE_lst, ↓w_SE_ifE, ↓w_SE_isN, ↓w_SE_notN, ↓w_SA_nil, ↓w_SA_cons, ↓w_ST_not, ↓w_ST_and, ↓w_ST_or, ↓w_ST_yes, ↓w_ST_tru, ↓w_SG_name, ↓w_SS_next, ↓w_SS_brk, ↓w_SS_cont, ↓w_SS_never, ↓w_SS_seq, ↓w_SS_cut, ↓w_SS_asg, ↓w_SS_drop, ↓w_SS_ret, ↓w_SS_retN, ↓w_SS_ifS, ↓w_SS_for_, ↓w_SS_while_, ↓w_SN_lst, ↓w_SE_nl, ↓w_SS_own, ↓w_SN_lc, ↓w_SE_call, ↓w_SE_callS, ↓w_SE_pop, ↓w_SP__no, ↓w_SS_raise0, ↓w_SS_raise1, ↓w_SS_raise2, ↓w_SS_tryO, ↓w_SS_tryA, ↓w_SS_tryM, ↓w_SE_xf, ↓w_SE_isE, ↓w_SE_popAt, ↓w_SN_slO, ↓w_SN_sortedS, ↓w_SN_sortedI, ↓w_SS_asg2, ↓w_SS_par, ↓w_SE_joined, ↓w_SE_join, ↓w_SE_txtB, ↓w_SE_lenSetT, ↓w_SE_chain, ↓w_SO_inSign, ↓w_SO_eqE, ↓w_SB_all_, ↓w_SB_repr, ↓c_i0, ↓c_c0, ↓c_iC, ↓c_addS, ↓c_repS, ↓c_catT, ↓c_ixS, ↓c_ixT, ↓c_ixL, ↓c_eq_ii, ↓c_eq_ss, ↓c_eq_ns, ↓c_eq_sn, ↓c_eq_bb, ↓c_eq_nn, ↓c_eq_ni, ↓c_eq_in, ↓c_ne_ii, ↓c_ne_ss, ↓c_ne_bb, ↓c_ne_ns, ↓c_ne_sn, ↓c_ne_nn, ↓c_ne_ni, ↓c_ne_in, ↓c_inST, ↓c_inSL, ↓c_lenS, ↓c_lenQt, ↓c_lenQl, ↓c_abs, ↓c_int1i, ↓c_int1b, ↓c_tupl, ↓c_tupt, ↓c_max2, ↓c_min2, ↓c_neg, ↓c_tst, ↓c_asI, ↓c_asS, ↓c_asT, ↓c_asL, ↓c_asQl, ↓c_asQt, ↓o_tt, ↓o_ts, ↓o_tl, ↓o_ti, ↓o_st, ↓o_ss, ↓o_sl_, ↓o_si, ↓o_lt, ↓o_ls, ↓o_ll, ↓o_li, ↓o_it, ↓o_is, ↓o_il, ↓o_ii, ↓o_bt, ↓o_bs, ↓o_bl_, ↓o_bi, ↓o_nt, ↓o_ns, ↓o_nl, ↓o_ni, ↓o_dt, ↓o_ds, ↓o_dl, ↓o_di, ↓v_test, ↓v_b, ↓v_andV, ↓v_orV, ↓v_notV, ↓v_isi, ↓v_at, ↓v_slS, ↓v_slT, ↓v_slL, ↓v_listOf, ↓v_revL, ↓v_revT, ↓v_cat, ↓v_rep, ↓v_ilist, ↓v_itup, ↓v_istr, ↓v_enumL, ↓v_enumT, ↓v_rng1, ↓v_rng2, ↓c_rng1, ↓c_rng2, ↓v_zipA, ↓c_zipt, ↓c_zipl, ↓v_gtup, ↓c_unp, ↓v_gunl, ↓c_unpL, ↓v_fmt, ↓c_fmts, ↓c_fmti, ↓v_js, ↓v_lenO, ↓v_tupO, ↓v_listO, ↓v_truO, ↓v_eqEO, ↓v_append, ↓v_ixO, ↓v_extendT, ↓v_extendL, ↓v_insert, ↓v_setL, ↓v_inO, ↓v_v0, ↓v_v0o, ↓v_v0d, ↓v_vs, ↓v_o0, ↓v_os, ↓v_d0, ↓v_ds, tr_non, tr_bl, tr_int, tr_str, tr_tup, tr_lst, tr_dic, in_non, in_bl, in_int, in_str, in_tup, in_lst, in_dic, we_nil, we_cons, sl_name, sl_tup, sl_unl, sa_nil, sa_cons, pr_val, pr_own, st_app, st_nil, js_nil, ↓w_for0, ↓w_for1, List.getElem?_cons_zero, List.getElem?_cons_succ, List.set_cons_zero, List.set_cons_succ, List.length_cons, List.length_nil, List.replicate_succ, List.replicate_zero, if_true, Bool.not_true, Bool.not_false, Bool.false_eq_true, if_false, ite_true, ite_false, decide_true, decide_false, Nat.reduceSub, Nat.reduceAdd, Nat.zero_add, true_and, and_true])
section
variable {K : PySem.W.Frag} [Tbs K] {dk : Option Addr} {F : Addr → Prop} {H : Hp}
end
section
variable {K : PySem.W.Frag} [Tbs K]
/-- what a filling makes of a row: the items, if there are as many gaps as told -/
def itemsOf : PV → List PV
  | .tup ys => ys
  | _ => []
end
/-! ### a wood parted is filled again -/
/-! ### which rows are good -/
/-! ### a row is that of one wood -/
theorem en_injQ {a b : En} (h : en a = en b) : a = b := by
  have h1 := congrArg (fun s : Str => s.cps.toList) h
  simp only [en_codes] at h1
  obtain ⟨h2, h3⟩ := List.cons.inj h1
  obtain ⟨b1, n1⟩ := a
  obtain ⟨b2, n2⟩ := b
  have hn : n1 = n2 := str_ext h3
  have hb : b1 = b2 := by
    cases b1 <;> cases b2 <;> first | rfl | (simp at h2)
  rw [hn, hb]
theorem map_inj {α β : Type} {f : α → β} (hf : ∀ a b, f a = f b → a = b) : ∀ {a b : List α}, a.map f = b.map f → a = b
  | [], [], _ => rfl
  | [], _ :: _, h => by cases h
  | _ :: _, [], h => by cases h
  | x :: a, y :: b, h => by
    rw [List.map_cons, List.map_cons] at h
    obtain ⟨h1, h2⟩ := List.cons.inj h
    rw [hf _ _ h1, map_inj hf h2]
theorem strs_inj {a b : List Str} (h : a.map PV.str = b.map PV.str) : a = b := map_inj (fun x y h => PV.str.inj h) h
/-! ### comprehensions that many laws have -/
end Tw
set_option Elab.async false
set_option linter.all false
set_option maxRecDepth 100000
set_option maxHeartbeats 4000000
/-! the law k02: its own place, rows spoilt -/
namespace Tw
open PySem PySem.Spec PyProof.Rows L2 TL
local macro_rules | `(tactic| walk_at "rd") => `(tactic| try simp only [o_op, o_un, o_var, o_c, o_cb, o_call, o_cons, o_nil, o_tup, o_lst, o_I0, o_I, o_int1, o_intb, o_abs, o_test, o_b, o_not, o_and, o_or, o_andV, o_orV, o_notV, o_ifE, o_isN, o_notN, o_eq, o_ne, o_seq, o_next, o_asg, o_name, o_sub, o_par, o_par3, o_drop, o_ret, o_retN, o_ifS, o_sl, o_noPart, o_part, o_bm, o_bm0, o_m0, o_m1, o_dget, o_dput, o_din, o_dnotin, o_listKeys, e_bl, e_int, e_str, e_some, e_two, e_three, o_for, o_lc, o_iList, o_iTup, o_iRng1, e_int1, e_ref, o_yes, o_wipe0, o_wipe1, o_disp, o_dnew, o_pairs0, o_pairs1, o_lock, o_keysM, o_gtup, o_gcons, o_gnil, o_rU, o_tru, o_revT, o_enumT, o_from, true_and, if_pos, List.getElem?_cons_zero, List.getElem?_cons_succ, List.set_cons_zero, List.set_cons_succ, List.append_nil])
section
variable {K : PySem.W.Frag}
theorem signs : (("+-" : Str)).cps.toList = [43, 45] := by decide +kernel
/-- a tuple of items -/
def Gt (K : PySem.W.Frag) (H : Hp) (p : Addr) (n : Nat) : Prop := ∃ ys, SqT K H p ys ∧ (∀ x ∈ ys, Itm K H x) ∧ ys.length ≤ n
theorem Gt.kp {H H' : Hp} (k : Kp H H') {p : Addr} {n : Nat} (h : Gt K H p n) : Gt K H' p n := by
  obtain ⟨ys, h1, h2, h3⟩ := h
  exact ⟨ys, Tk.kp k _ _ h1, fun x hx => (h2 x hx).kp k, h3⟩
theorem Gt.dk {H H' : Hp} {d : Addr} (k : Dk d H H') (hd : DeckAt H d) {p : Addr} {n : Nat} (h : Gt K H p n) : Gt K H' p n := by
  obtain ⟨ys, h1, h2, h3⟩ := h
  exact ⟨ys, k.tk hd _ _ h1, fun x hx => (h2 x hx).dk k hd, h3⟩
end
end Tw
set_option Elab.async false
set_option linter.all false
set_option maxRecDepth 100000
set_option maxHeartbeats 4000000
/-! plain layer: three stores at once, dict displays of constants, picks, places -/
namespace Tw
open PySem PySem.Spec PyProof.Rows L2
namespace SS
variable {K : PySem.W.Frag} [Tbs K]
def par3 (i j l : Nat) (a b c : SE K) : SS K where
  rd := fun E => tPar3 i j l (tCons (a.rd E) (tCons (b.rd E) (tCons (c.rd E) tNil)))
  wp := fun PE PD ρ => a.wp PE ρ fun x ρ1 => b.wp PE ρ1 fun y ρ2 => c.wp PE ρ2 fun z ρ3 => PD.nx (((ρ3.set i (.val x)).set j (.val y)).set l (.val z))
  ok := by
    intro dk F0 H0 F σ H ρ E PE D PD I e d h
    refine a.ok I e h fun v H1 F1 x ρ1 g1 I1 r1 h1 => ?_
    refine b.ok I1 (e.grow g1) h1 fun w H2 F2 y ρ2 g2 I2 r2 h2 => ?_
    refine c.ok I2 (e.grow (g1.trans g2)) h2 fun u H3 F3 z ρ3 g3 I3 r3 h3 => ?_
    exact ⟨v, w, u, rfl, d.nx _ _ _ _ ((g1.trans g2).trans g3) (((I3.setV (r1.mono (g2.trans g3))).setV (r2.mono g3)).setV r3) h3⟩
end SS
/-- isinstance(e, X) of the error at hand, with fields or without -/
def rIsX (K : PySem.W.Frag) [Tbs K] (D : Addr) (cls : Value) (d : Option Addr) (a : Addr) : List V → Hp → VK → Prop := fun xs H Q => ∃ (c : V) (cv : Value) (b : Bool), xs = [.ref a, c] ∧ cls = .ref D ∧ (d = none ∨ ∃ dd fs, d = some dd ∧ H dd = some (.xd fs)) ∧ (∀ u, RelV c u → u = cv) ∧ PySem.W.kitOne K (.ref D) cv = some b ∧ Q (.bl b) H
theorem call_isX {X : Cx} {a D : Addr} {cls : Value} {d : Option Addr} {oe : Obj} {pn : List (Addr × Obj)} (C : ExcC X.K D) (hz : Zc cls d oe) (hf : ∃ vs, oe.data = .fields vs) : CallR (X.suite a ((a, oe) :: pn)) (.builtin "isinstance") (rIsX X.K D cls d a) := by
  intro pins s σ H xs us Q I r h
  obtain ⟨c, cv, b, e1, e2, e3, e4, e5, q⟩ := h
  rcases e3 with rfl | ⟨dd, fs, rfl, hd⟩
  · subst e2
    exact call_isE C hz hf pins s σ H xs us Q I r ⟨c, cv, b, e1, e4, e5, q⟩
  · exact call_isD C hz hf pins s σ H xs us Q I r ⟨c, cv, b, e1, e2, ⟨dd, fs, rfl, hd⟩, e4, e5, q⟩
def dcon1 (kvs : List (Str × Int)) : List (Key × V) := kvs.map fun p => (Sum.inr p.1, .int p.2)
def dcon2 (kvs : List (Str × Int)) : List (Key × PV) := kvs.map fun p => (Sum.inr p.1, .int p.2)
theorem dcon_rep {K : PySem.W.Frag} [Tbs K] {dk : Option Addr} {F : Addr → Prop} {H : Hp} : ∀ kvs : List (Str × Int), RepK K dk F H (dcon1 kvs) (dcon2 kvs)
  | [] => .nil
  | p :: kvs => .cons (.int _) (dcon_rep kvs)
namespace SE
variable {K : PySem.W.Frag} [Tbs K]
def isE0 (a : Addr) (cls : Value) (d : Option Addr) (C X : Addr) (i : Nat) : SE K where
  rd := fun _ => tCB (rIsX K C cls d a) (tCons (tVar i) (tCons (tC (.ref X)) tNil))
  wp := fun _ ρ P => ∃ er b, ρ[i]? = some (.err a d er) ∧ cls = .ref C ∧ PySem.W.kitOne K (.ref C) (.ref X) = some b ∧ P (.bl b) ρ
  ok := by
    intro dk F0 H0 F σ H ρ E PE P Q I e h q
    obtain ⟨er, b, hi, hc, hk, h⟩ := h
    obtain ⟨o, ho, s⟩ := I.slot hi
    cases s with
    | err ea =>
      refine ⟨_, ho, .ref X, .ref X, b, rfl, hc, ?_, fun u z => z, hk, q _ _ _ _ _ Grow.refl I (.bl _) h⟩
      rcases ea with ⟨e1, _⟩ | ⟨p, fv, rfl, fp, hp, r⟩
      · exact .inl e1
      · exact .inr ⟨p, fv, rfl, hp⟩
def dnew : SE K where
  rd := fun _ => tDNewK
  wp := fun _ ρ P => P (.dic []) ρ
  ok := by
    intro dk F0 H0 F σ H ρ E PE P Q I e h q
    intro p hp
    exact q _ _ _ _ _ (Grow.newF hp) (I.newF hp) (.dic (.inr rfl) upd_same .nil) h
def dcon (kvs : List (Str × Int)) : SE K where
  rd := fun _ => tDisp (kvs.map fun p => (tC (.str p.1), tC (.int p.2)))
  wp := fun _ ρ P => kvs.length ≤ 15 ∧ mergeK [] (dcon1 kvs) = dcon1 kvs ∧ P (.dic (dcon2 kvs)) ρ
  ok := by
    intro dk F0 H0 F σ H ρ E PE P Q I e h q
    obtain ⟨h1, h2, h3⟩ := h
    intro p hp
    have key : ∀ (l : List (Str × Int)) (R : List (V × V) → Hp → Prop), R (l.map fun kv => (.str kv.1, .int kv.2)) (upd H p (.dK [])) → tPairs (l.map fun kv => (tC (.str kv.1), tC (.int kv.2))) σ (upd H p (.dK [])) R := by
      intro l
      induction l with
      | nil => intro R h; exact h
      | cons x l ih => intro R h; exact ih _ h
    refine key kvs _ ⟨upd_same, dcon1 kvs, ?_, by unfold dcon1; rw [List.length_map]; exact h1, ?_⟩
    · unfold dcon1
      rw [List.map_map]
      rfl
    · rw [upd_upd, h2]
      exact q _ _ _ _ _ (Grow.newF hp) (I.newF hp) (.dic (.inr rfl) upd_same (dcon_rep kvs)) h3
end SE
section
variable {K : PySem.W.Frag} [Tbs K]
theorem w_SS_par3 {i j l : Nat} {a b c : SE K} {PE : PEK} {PD : PEnds} {ρ : Env} : (SS.par3 i j l a b c : SS K).wp PE PD ρ = (a.wp PE ρ fun x ρ1 => b.wp PE ρ1 fun y ρ2 => c.wp PE ρ2 fun z ρ3 => PD.nx (((ρ3.set i (.val x)).set j (.val y)).set l (.val z))) := rfl
theorem w_SE_isE0 {a : Addr} {cls : Value} {d : Option Addr} {C X : Addr} {i : Nat} {u0 : PEK} {ρ : Env} {P : PV → Env → Prop} : (SE.isE0 a cls d C X i : SE K).wp u0 ρ P = (∃ er b, ρ[i]? = some (.err a d er) ∧ cls = .ref C ∧ PySem.W.kitOne K (.ref C) (.ref X) = some b ∧ P (.bl b) ρ) := rfl
theorem w_SE_dnew {PE : PEK} {ρ : Env} {P : PV → Env → Prop} : (SE.dnew : SE K).wp PE ρ P = P (.dic []) ρ := rfl
theorem w_SE_dcon {kvs : List (Str × Int)} {PE : PEK} {ρ : Env} {P : PV → Env → Prop} : (SE.dcon kvs : SE K).wp PE ρ P = (kvs.length ≤ 15 ∧ mergeK [] (dcon1 kvs) = dcon1 kvs ∧ P (.dic (dcon2 kvs)) ρ) := rfl
/-- a pick of a list -/
theorem rep_pick {dk : Option Addr} {F : Addr → Prop} {H : Hp} : ∀ {vs : List V} {xs : List PV} {v : V}, RepL K dk F H vs xs → v ∈ vs → ∃ x ∈ xs, Rep K dk F H v x
  | _, _, v, .nil, h => by cases h
  | _, _, v, .cons a b, h => by
    rcases List.mem_cons.mp h with rfl | h
    · exact ⟨_, List.mem_cons_self .., a⟩
    · obtain ⟨x, hx, r⟩ := rep_pick b h
      exact ⟨x, List.mem_cons_of_mem _ hx, r⟩
end
def psp_l_pick : PSp := fun xs _ post => ∃ ys : List PV, xs = [.deck, .lst ys] ∧ ys ≠ [] ∧ ys.length ≤ 1000000 ∧ ∀ y ∈ ys, post y
theorem hs_l_pick (K : PySem.W.Frag) [Tbs K] : SpOk K (sp_l_pick K) psp_l_pick := by
  rintro dk F H vs xs perr post Q E s r ⟨ys, rfl, h0, hl, h3⟩ q _
  cases r with
  | cons a b => cases b with
    | cons c d =>
      cases a with
      | deck e =>
        cases d
        cases c with
        | @lst l vs _ fl el rl =>
          have ne := s.listNe fl e
          subst e
          refine ⟨_, l, vs, rfl, s.deck _ rfl, SqL.of el, ne, ?_, by rw [rl.len]; exact hl, fun v H' hv k => ?_⟩
          · intro z
            subst z
            cases rl
            exact h0 rfl
          · obtain ⟨x, hx, rx⟩ := rep_pick rl hv
            exact q _ H' F _ (s.dkk k) (rx.mono ((s.dkk k).grow.unhide s.tb.fnt)) (h3 x hx)
end Tw
set_option Elab.async false
set_option linter.all false
set_option maxRecDepth 100000
set_option maxHeartbeats 4000000
/-! plain layer: tuples that are laid frozen (rows on which .index is called) -/
namespace Tw
open PySem PySem.Spec PyProof.Rows L2
section
variable {X : Cx}
/-- t[lo:hi], laid frozen; the whole of it is t itself -/
def rSlF (K : PySem.W.Frag) [Tbs K] : V → Option Int → Option Int → Hp → VK → Prop := fun x lo hi H Q => ∃ a xs, x = .ref a ∧ SqT K H a xs ∧
  ((HT.sIx xs.length 0 lo = 0 ∧ HT.sIx xs.length xs.length hi = xs.length) → Q (.ref a) H) ∧ (¬ (HT.sIx xs.length 0 lo = 0 ∧ HT.sIx xs.length xs.length hi = xs.length) → NewT Q H (cutV xs lo hi))
/-- tuple(list), laid frozen -/
def rTupleF (K : PySem.W.Frag) [Tbs K] : List V → Hp → VK → Prop := fun xs H Q => ∃ p ys, xs = [.ref p] ∧ SqL K H p ys ∧ NewT Q H ys
end
section
variable {K : PySem.W.Frag} [Tbs K] {dk : Option Addr} {F : Addr → Prop} {H : Hp}
theorem Rep.frtNew {p : Addr} {o : Obj} {vs : List V} {xs : List PV} (c : o.cls = .type "tuple") (d : o.dict = none) (hp : H p = none) (l : RepL K dk F H vs xs) : Rep K dk (fun b => F b ∨ b = p) (upd H p (.frz o (.tup vs))) (.ref p) (.frt xs) :=
  have t : TD (upd H p (.frz o (.tup vs))) p vs := ⟨o, upd_same, c, d⟩
  .frt t.sq (fun _ => ⟨.inr rfl, t⟩) (l.mono (Grow.newF hp))
end
namespace SE
variable {K : PySem.W.Frag} [Tbs K]
def tupF (a : SA K) : SE K where
  rd := fun E => tTupF (a.rd E)
  wp := fun PE ρ P => a.wp PE ρ fun xs ρ1 => xs.length ≤ sizeLine ∧ P (.frt xs) ρ1
  ok := by
    intro dk F0 H0 F σ H ρ E PE P Q I e h q
    refine a.ok I e h fun v H1 F1 x ρ1 g1 I1 r1 h1 => ?_
    refine ⟨by rw [r1.len]; exact h1.1, fun p o hp c d => ?_⟩
    exact q _ _ _ _ _ (g1.trans (Grow.newF hp)) (I1.newF hp) (.frtNew c d hp r1) h1.2
def slF (a : SE K) (lo hi : SP_ K) : SE K where
  rd := fun E => L2.tSl (rSlF K) (a.rd E) (lo.rd E) (hi.rd E)
  wp := fun PE ρ P => a.wp PE ρ fun x ρ1 => lo.wp PE ρ1 fun l ρ2 => hi.wp PE ρ2 fun h ρ3 => ∃ xs, x = .frt xs ∧ P (.frt (cutP xs l h)) ρ3
  ok := by
    intro dk F0 H0 F σ H ρ E PE P Q I e h q
    refine a.ok I e h fun v H1 F1 x ρ1 g1 I1 r1 h1 => ?_
    refine lo.ok I1 (e.grow g1) h1 fun l H2 F2 ρ2 g2 I2 h2 => ?_
    refine hi.ok I2 (e.grow (g1.trans g2)) h2 fun u H3 F3 ρ3 g3 I3 h3 => ?_
    obtain ⟨xs, rfl, h3⟩ := h3
    have r3 := r1.mono (g2.trans g3)
    have g := (g1.trans g2).trans g3
    cases r3 with
    | frt s t r =>
      rename_i p vs
      refine ⟨p, vs, rfl, s, fun c => ?_, fun c p o hp hc hd => ?_⟩
      · refine q _ _ _ _ _ g I3 (.frt s t r) ?_
        have : cutP xs l u = xs := by
          unfold cutP
          rw [← r.len, c.1, c.2, List.drop_zero, r.len, Nat.sub_zero, List.take_length]
        rw [← this]; exact h3
      · refine q _ _ _ _ _ (g.trans (Grow.newF hp)) (I3.newF hp) (.frtNew hc hd hp ?_) h3
        have e : cutP xs l u = (xs.drop (HT.sIx vs.length 0 l)).take (HT.sIx vs.length vs.length u - HT.sIx vs.length 0 l) := by unfold cutP; rw [r.len]
        rw [e]
        exact (r.drop _).take _
/-- tuple(xs), xs a list made on the spot, laid frozen -/
def tupleF (a : SE K) : SE K where
  rd := fun E => tCB (rTupleF K) (tCons (a.rd E) tNil)
  wp := fun PE ρ P => a.wp PE ρ fun x ρ1 => ∃ ys, x = .lst ys ∧ P (.frt ys) ρ1
  ok := by
    intro dk F0 H0 F σ H ρ E PE P Q I e h q
    refine a.ok I e h fun v H1 F1 x ρ1 g1 I1 r1 h1 => ?_
    obtain ⟨ys, rfl, h1⟩ := h1
    cases r1 with
    | lst f s l => exact ⟨_, _, rfl, SqL.of s, fun p o hp c d => q _ _ _ _ _ (g1.trans (Grow.newF hp)) (I1.newF hp) (.frtNew c d hp l) h1⟩
/-- t.index(x) -/
def idxF (a b : SE K) : SE K where
  rd := fun E => tIdxT (a.rd E) (b.rd E)
  wp := fun PE ρ P => a.wp PE ρ fun x ρ1 => ∃ zs : List Str, x = .frt (zs.map .str) ∧ zs ≠ [] ∧ b.wp PE ρ1 fun y ρ2 => ∃ z : Str, y = .str z ∧ z ∈ zs ∧ P (.int (zs.idxOf z : Nat)) ρ2
  ok := by
    intro dk F0 H0 F σ H ρ E PE P Q I e h q
    refine a.ok I e h fun v H1 F1 x ρ1 g1 I1 r1 h1 => ?_
    obtain ⟨zs, rfl, hne, h1⟩ := h1
    have hne' : zs.map PV.str ≠ [] := fun z => hne (List.map_eq_nil_iff.mp z)
    have r0 := r1
    cases r1 with
    | frt s t l =>
      have := l.strs; subst this
      refine ⟨_, zs, rfl, (t hne').2, ?_⟩
      refine b.ok I1 (e.grow g1) h1 fun w H2 F2 y ρ2 g2 I2 r2 h2 => ?_
      obtain ⟨z, rfl, hz, h2⟩ := h2
      cases r2
      have r3 := r0.mono g2
      cases r3 with
      | frt s3 t3 l3 =>
        have := l3.strs; subst this
        exact ⟨z, rfl, (t3 hne').2, hz, q _ _ _ _ _ (g1.trans g2) I2 (.int _) h2⟩
end SE
namespace SO
variable {K : PySem.W.Frag} [Tbs K]
def catF : SO K where
  rd := rCatF K
  wp := fun x y P => ∃ xs ys, x = .frt xs ∧ y = .frt ys ∧ xs.length + ys.length ≤ sizeLine ∧ P (.frt (xs ++ ys))
  ok := by
    rintro dk F0 H0 F σ H ρ v w x y P Q I r1 r2 ⟨xs, ys, rfl, rfl, c, h⟩ q
    cases r1 with
    | frt s1 t1 l1 =>
      rename_i a vs
      cases r2 with
      | frt s2 t2 l2 =>
        rename_i b ws
        refine ⟨a, b, vs, ws, rfl, rfl, s1, s2, by rw [l1.len, l2.len]; exact c, fun e => ?_, fun _ e => ?_, fun _ _ p o hp hc hd => ?_⟩
        · subst e
          cases l1
          exact q _ _ _ _ Grow.refl I (.frt s2 t2 l2) (by simpa using h)
        · subst e
          cases l2
          exact q _ _ _ _ Grow.refl I (.frt s1 t1 l1) (by simpa using h)
        · exact q _ _ _ _ (Grow.newF hp) (I.newF hp) (.frtNew hc hd hp (l1.app l2)) h
/-- x in t -/
def inF (neg : Bool) : SO K where
  rd := rIn K neg
  wp := fun x y P => ∃ (n : Str) (zs : List Str), x = .str n ∧ y = .frt (zs.map .str) ∧ P (.bl (neg != decide (n ∈ zs)))
  ok := by
    rintro dk F0 H0 F σ H ρ v w x y P Q I r1 r2 ⟨n, zs, rfl, rfl, h⟩ q
    cases r1
    have e : (if neg = true then !inV (.str n) (zs.map V.str) else inV (.str n) (zs.map V.str)) = (neg != decide (n ∈ zs)) := by
      rw [inV_str]; cases neg <;> simp
    cases r2 with
    | frt s t l =>
      have := l.strs; subst this
      exact ⟨_, _, rfl, .inr s, rfl, flat_strs zs, by rw [e]; exact q _ _ _ _ Grow.refl I (.bl _) h⟩
/-- t[i] -/
def ixF : SO K where
  rd := rIxT K
  wp := fun x y P => ∃ xs i u, x = .frt xs ∧ y = .int i ∧ L2.atI xs i = some u ∧ P u
  ok := by
    rintro dk F0 H0 F σ H ρ v w x y P Q I r1 r2 ⟨xs, i, u, rfl, rfl, a, h⟩ q
    cases r1 with
    | frt s1 t1 l1 =>
      cases r2
      obtain ⟨v, hv, rv⟩ := l1.atI a
      exact ⟨_, _, i, v, rfl, rfl, s1, hv, q _ _ _ _ Grow.refl I rv h⟩
end SO
namespace SB
variable {K : PySem.W.Frag} [Tbs K]
def lenF : SB K where
  rd := rLenSeq K
  wp := fun xs P => ∃ ys, xs = [.frt ys] ∧ P (.int ys.length)
  ok := by
    rintro dk F0 H0 F σ H ρ vs xs P Q I r ⟨ys, rfl, h⟩ q
    cases r with
    | cons a b =>
      cases b
      cases a with
      | frt s t l => exact ⟨_, _, rfl, .inr s, by rw [l.len]; exact q _ _ _ _ Grow.refl I (.int _) h⟩
/-- any([..]) of truths -/
def any_ : SB K where
  rd := rAny K
  wp := fun xs P => ∃ bs : List Bool, xs = [.lst (bs.map .bl)] ∧ P (.bl (bs.any id))
  ok := by
    rintro dk F0 H0 F σ H ρ vs xs P Q I r ⟨bs, rfl, h⟩ q
    cases r with
    | cons a b =>
      cases b
      cases a with
      | lst f s l => exact ⟨_, bs, rfl, by rw [← l.bools]; exact SqL.of s, q _ _ _ _ Grow.refl I (.bl _) h⟩
end SB
namespace SI
variable {K : PySem.W.Frag} [Tbs K]
def frt (a : SE K) : SI K where
  rd := fun E => iTup K (a.rd E)
  wp := fun PE ρ P => a.wp PE ρ fun x ρ1 => ∃ xs, x = .frt xs ∧ P xs ρ1
  ok := by
    intro dk F0 H0 F σ H ρ E PE P R I e h q
    refine a.ok I e h fun v H1 F1 x ρ1 g1 I1 r1 h1 => ?_
    obtain ⟨xs, rfl, h1⟩ := h1
    cases r1 with
    | frt s t l => exact ⟨_, rfl, ⟨_, s⟩, q _ _ _ _ _ g1 I1 (walkT s l) h1⟩
end SI
/-! ### opened -/
def asF (x : PV) (R : List PV → Prop) : Prop := ∃ k, x = .frt k ∧ R k
theorem c_asF {xs : List PV} {R : List PV → Prop} : asF (.frt xs) R = R xs := by unfold asF; simp
section
variable {K : PySem.W.Frag} [Tbs K] {PE : PEK} {ρ : Env} {Q : PV → Env → Prop} {P : PV → Prop} {xs ys : List PV} {i j : Int}
theorem w_SE_tupF {a : SA K} : (SE.tupF a).wp PE ρ Q = (a.wp PE ρ fun xs ρ1 => xs.length ≤ sizeLine ∧ Q (.frt xs) ρ1) := rfl
theorem w_SE_slF {a : SE K} {lo hi : SP_ K} : (SE.slF a lo hi).wp PE ρ Q = (a.wp PE ρ fun x ρ1 => lo.wp PE ρ1 fun l ρ2 => hi.wp PE ρ2 fun h ρ3 => asF x fun xs => Q (.frt (cutP xs l h)) ρ3) := rfl
theorem w_SE_tupleF {a : SE K} : (SE.tupleF a).wp PE ρ Q = (a.wp PE ρ fun x ρ1 => asL x fun ys => Q (.frt ys) ρ1) := rfl
theorem w_SE_idxF {a b : SE K} : (SE.idxF a b).wp PE ρ Q = (a.wp PE ρ fun x ρ1 => ∃ zs : List Str, x = .frt (zs.map .str) ∧ zs ≠ [] ∧ b.wp PE ρ1 fun y ρ2 => ∃ z : Str, y = .str z ∧ z ∈ zs ∧ Q (.int (zs.idxOf z : Nat)) ρ2) := rfl
theorem c_catF : (SO.catF : SO K).wp (.frt xs) (.frt ys) P = (xs.length + ys.length ≤ sizeLine ∧ P (.frt (xs ++ ys))) := by unfold SO.catF; simp
theorem c_inF {neg : Bool} {n : Str} {zs : List Str} : (SO.inF neg : SO K).wp (.str n) (.frt (zs.map .str)) P = P (.bl (neg != decide (n ∈ zs))) := by
  apply propext; constructor
  · rintro ⟨n', zs', e1, e2, h⟩
    cases e1
    rw [strs_inj (PV.frt.inj e2)]; exact h
  · intro h; exact ⟨n, zs, rfl, rfl, h⟩
theorem c_ixF : (SO.ixF : SO K).wp (.frt xs) (.int j) P = (∃ u, L2.atI xs j = some u ∧ P u) := by unfold SO.ixF; simp
theorem c_lenF : (SB.lenF : SB K).wp [.frt xs] P = P (.int xs.length) := by unfold SB.lenF; simp
theorem w_SI_frt {a : SE K} {R : List PV → Env → Prop} : (SI.frt a).wp PE ρ R = (a.wp PE ρ fun x ρ1 => asF x fun xs => R xs ρ1) := rfl
end
end Tw
set_option Elab.async false
set_option linter.all false
set_option maxRecDepth 100000
set_option maxHeartbeats 4000000
/-! plain layer: sorted pairs of ints; dicts with texts made on the spot -/
namespace Tw
open PySem PySem.Spec PyProof.Rows L2
section
variable {X : Cx}
end
/-- the order of pairs -/
def leP (p q : Int × Int) : Prop := SrtO.lexB q p = false
def pP (p : Int × Int) : PV := .tup [.int p.1, .int p.2]
/-- the same, the pairs told beside the addresses -/
def rSortedR (K : PySem.W.Frag) [Tbs K] : List V → Hp → VK → Prop := fun vs H Q => ∃ (a : Addr) (tps : List (Addr × (Int × Int))), vs = [V.ref a] ∧ SqL K H a (tps.map fun tp => V.ref tp.1) ∧ (∀ tp ∈ tps, SqT K H tp.1 [.int tp.2.1, .int tp.2.2]) ∧
  ∀ (tps' : List (Addr × (Int × Int))) (p : Addr), tps'.Perm tps → tps'.Pairwise (fun t u => leP t.2 u.2) → H p = none → Q (.ref p) (upd H p (.lst (tps'.map fun tp => V.ref tp.1)))
open Classical in
/-- the addresses that stand for pairs -/
theorem reps_pairs {K : PySem.W.Frag} [Tbs K] {dk : Option Addr} {F : Addr → Prop} {H : Hp} : ∀ {vs : List V} {ps : List (Int × Int)}, RepL K dk F H vs (ps.map pP) → ∃ tps : List (Addr × (Int × Int)), vs = tps.map (fun tp => V.ref tp.1) ∧ ps = tps.map (·.2) ∧ ∀ tp ∈ tps, SqT K H tp.1 [.int tp.2.1, .int tp.2.2]
  | _, [], .nil => ⟨[], rfl, rfl, fun tp h => (by cases h)⟩
  | _, p :: ps, .cons r l => by
    obtain ⟨tps, e1, e2, e3⟩ := reps_pairs l
    cases r with
    | @tup t ws _ st lr =>
      cases lr with
      | cons r1 l1 => cases l1 with
        | cons r2 l2 =>
          cases r1; cases r2; cases l2
          refine ⟨(t, p) :: tps, by rw [e1]; rfl, by rw [e2]; rfl, fun tp h => ?_⟩
          rcases List.mem_cons.mp h with rfl | h
          · exact st
          · exact e3 tp h
theorem pairs_rep {K : PySem.W.Frag} [Tbs K] {dk : Option Addr} {F : Addr → Prop} {H : Hp} : ∀ {tps : List (Addr × (Int × Int))}, (∀ tp ∈ tps, SqT K H tp.1 [.int tp.2.1, .int tp.2.2]) → RepL K dk F H (tps.map fun tp => V.ref tp.1) ((tps.map (·.2)).map pP)
  | [], _ => .nil
  | tp :: tps, h => .cons (.tup (h tp (List.mem_cons_self ..)) (.cons (.int _) (.cons (.int _) .nil))) (pairs_rep fun x hx => h x (List.mem_cons_of_mem _ hx))
namespace SN
variable {K : PySem.W.Frag} [Tbs K]
def sortedP (a : SE K) : SN K where
  rd := fun E => tCB (rSortedR K) (tCons (a.rd E) tNil)
  wp := fun PE ρ P => a.wp PE ρ fun x ρ1 => ∃ ps : List (Int × Int), x = .lst (ps.map pP) ∧ ∀ qs : List (Int × Int), qs.Perm ps → qs.Pairwise leP → P (qs.map pP) ρ1
  ok := by
    intro dk F0 H0 F σ H ρ E PE P Q I e h q
    refine a.ok I e h fun v H1 F1 x ρ1 g1 I1 r1 h1 => ?_
    obtain ⟨ps, rfl, h1⟩ := h1
    cases r1 with
    | lst f s r =>
      obtain ⟨tps, e1, e2, e3⟩ := reps_pairs r
      subst e1 e2
      refine ⟨_, tps, rfl, SqL.of s, e3, fun tps' p hp hs hn => ?_⟩
      obtain ⟨I4, g4, e4, r4, a1, a2, a3, a4⟩ := I1.laid hn (pairs_rep (tps := tps') fun tp ht => e3 tp (hp.mem_iff.mp ht))
      exact q _ _ _ _ _ _ (g1.trans g4) I4 e4 r4 a1 a2 a3 a4 (h1 _ (hp.map _) (by rw [List.pairwise_map]; exact hs))
end SN
theorem w_SN_sortedP {K : PySem.W.Frag} [Tbs K] {a : SE K} {PE : PEK} {ρ : Env} {P : List PV → Env → Prop} : (SN.sortedP a : SN K).wp PE ρ P = (a.wp PE ρ fun x ρ1 => ∃ ps : List (Int × Int), x = .lst (ps.map pP) ∧ ∀ qs : List (Int × Int), qs.Perm ps → qs.Pairwise leP → P (qs.map pP) ρ1) := rfl
/-! ### a dict whose keys and values are texts made of variables -/
/-- a text made of a written one and a variable: it changes nothing -/
structure TxE where
  rd : TE
  wp : Tw.Env → (Str → Prop) → Prop
  ok : ∀ {σ : L2.St} {H : Hp} {ρ : Tw.Env} {P : Str → Prop} {Q : VK}, (∀ (i : Nat) (x : Str), ρ[i]? = some (Sl.val (PV.str x)) → σ[i]? = some (some (V.str x))) → wp ρ P → (∀ z, P z → Q (.str z) H) → rd σ H Q
def TxE.fs (pre : Str) (i : Nat) : TxE where
  rd := tJoined [tC (.str pre), tFmt (tVar i)]
  wp := fun ρ P => ∃ z, ρ[i]? = some (Sl.val (PV.str z)) ∧ (Str.empty ++ pre).length ≤ sizeLine ∧ z.length ≤ sizeLine ∧ (Str.empty ++ pre ++ z).length ≤ sizeLine ∧ P (Str.empty ++ pre ++ z)
  ok := by
    intro σ H ρ P Q hs ⟨z, hz, l1, l2, l3, h⟩ q
    exact ⟨pre, rfl, l1, .str z, hs i z hz, .inl ⟨z, rfl, l2, z, rfl, l3, q _ h⟩⟩
def txPairs : List (TxE × TxE) → Tw.Env → (List (Str × Str) → Prop) → Prop
  | [], _, P => P []
  | (a, b) :: l, ρ, P => a.wp ρ fun x => b.wp ρ fun y => txPairs l ρ fun kvs => P ((x, y) :: kvs)
def dtxt1 (kvs : List (Str × Str)) : List (Key × V) := kvs.map fun p => (Sum.inr p.1, .str p.2)
def dtxt2 (kvs : List (Str × Str)) : List (Key × PV) := kvs.map fun p => (Sum.inr p.1, .str p.2)
theorem dtxt_rep {K : PySem.W.Frag} [Tbs K] {dk : Option Addr} {F : Addr → Prop} {H : Hp} : ∀ kvs : List (Str × Str), RepK K dk F H (dtxt1 kvs) (dtxt2 kvs)
  | [] => .nil
  | p :: kvs => .cons (.str _) (dtxt_rep kvs)
namespace SE
variable {K : PySem.W.Frag} [Tbs K]
def dtxt (l : List (TxE × TxE)) : SE K where
  rd := fun _ => tDisp (l.map fun p => (p.1.rd, p.2.rd))
  wp := fun PE ρ P => txPairs l ρ fun kvs => kvs.length ≤ 15 ∧ ∃ kvs', mergeK [] (dtxt1 kvs) = dtxt1 kvs' ∧ P (.dic (dtxt2 kvs')) ρ
  ok := by
    intro dk F0 H0 F σ H ρ E PE P Q I e h q
    intro p hp
    have hs : ∀ (i : Nat) (x : Str), ρ[i]? = some (Sl.val (PV.str x)) → σ[i]? = some (some (V.str x)) := fun i x hi => by
      obtain ⟨o, ho, s⟩ := I.slot hi
      cases s with
      | val r => cases r; exact ho
    have key : ∀ (l : List (TxE × TxE)) (P : List (Str × Str) → Prop) (R : List (V × V) → Hp → Prop), txPairs l ρ P → (∀ kvs, P kvs → R (kvs.map fun kv => (.str kv.1, .str kv.2)) (upd H p (.dK []))) → tPairs (l.map fun p => (p.1.rd, p.2.rd)) σ (upd H p (.dK [])) R := by
      intro l
      induction l with
      | nil => intro P R h hr; exact hr [] h
      | cons x l ih =>
        obtain ⟨a, b⟩ := x
        intro P R h hr
        refine a.ok hs h fun x hx => ?_
        refine b.ok hs hx fun y hy => ?_
        exact ih _ _ hy fun kvs hk => hr _ hk
    refine key l _ _ h fun kvs hk => ?_
    obtain ⟨h1, kvs', h2, h3⟩ := hk
    refine ⟨upd_same, dtxt1 kvs, ?_, by unfold dtxt1; rw [List.length_map]; exact h1, ?_⟩
    · unfold dtxt1
      rw [List.map_map]
      rfl
    · rw [upd_upd, h2]
      exact q _ _ _ _ _ (Grow.newF hp) (I.newF hp) (.dic (.inr rfl) upd_same (dtxt_rep kvs')) h3
end SE
def valP (kvs : List (Key × PV)) (k : Key) : Option PV := (kvs.find? fun kv => decide (kv.1 = k)).map (·.2)
theorem RepK.val {K : PySem.W.Frag} [Tbs K] {dk : Option Addr} {F : Addr → Prop} {H : Hp} (k : Key) : ∀ {vs : List (Key × V)} {xs : List (Key × PV)}, RepK K dk F H vs xs → (valV vs k = none ∧ valP xs k = none) ∨ ∃ v x, valV vs k = some v ∧ valP xs k = some x ∧ Rep K dk F H v x
  | _, _, .nil => .inl ⟨rfl, rfl⟩
  | _, _, @RepK.cons _ _ _ _ k' v x vs xs r l => by
    by_cases e : k' = k
    · refine .inr ⟨v, x, ?_, ?_, r⟩
      · simp [valV, List.find?_cons, e]
      · simp [valP, List.find?_cons, e]
    · have h := RepK.val k l
      have e1 : valV ((k', v) :: vs) k = valV vs k := by simp [valV, List.find?_cons, e]
      have e2 : valP ((k', x) :: xs) k = valP xs k := by simp [valP, List.find?_cons, e]
      rw [e1, e2]; exact h
namespace SE
variable {K : PySem.W.Frag} [Tbs K]
/-- d.get(k, x) -/
def dget2 (a b c : SE K) : SE K where
  rd := fun E => tDGet2 (a.rd E) (b.rd E) (c.rd E)
  wp := fun PE ρ P => a.wp PE ρ fun x ρ1 => ∃ kvs, x = .dic kvs ∧ b.wp PE ρ1 fun y ρ2 => c.wp PE ρ2 fun w ρ3 => ∃ z : Str, y = .str z ∧ P ((valP kvs (Sum.inr z)).getD w) ρ3
  ok := by
    intro dk F0 H0 F σ H ρ E PE P Q I e h q
    refine a.ok I e h fun v H1 F1 x ρ1 g1 I1 r1 h1 => ?_
    obtain ⟨kvs, rfl, h1⟩ := h1
    cases r1 with
    | @dic p vs _ f s r =>
      refine ⟨p, rfl, .inl ⟨_, Rd.of s⟩, ?_⟩
      refine b.ok I1 (e.grow g1) h1 fun y H2 F2 yp ρ2 g2 I2 r2 h2 => ?_
      refine c.ok I2 (e.grow (g1.trans g2)) h2 fun w H3 F3 wp ρ3 g3 I3 r3 h3 => ?_
      obtain ⟨z, rfl, h3⟩ := h3
      cases r2
      have rk := RepK.mono (g2.trans g3) r
      have s3 := (g2.trans g3).keep _ _ f s
      rcases RepK.val (Sum.inr z) rk with ⟨e1, e2⟩ | ⟨v, x, e1, e2, rv⟩
      · rw [e2] at h3
        exact ⟨none, .inl ⟨vs, Sum.inr z, Rd.of s3, rfl, e1.symm⟩, q _ _ _ _ _ ((g1.trans g2).trans g3) I3 r3 h3⟩
      · rw [e2] at h3
        exact ⟨some v, .inl ⟨vs, Sum.inr z, Rd.of s3, rfl, e1.symm⟩, q _ _ _ _ _ ((g1.trans g2).trans g3) I3 rv h3⟩
end SE
section
variable {K : PySem.W.Frag} [Tbs K] {PE : PEK} {ρ : Tw.Env} {Q : PV → Tw.Env → Prop}
theorem w_SE_dtxt {l : List (TxE × TxE)} : (SE.dtxt l : SE K).wp PE ρ Q = txPairs l ρ fun kvs => kvs.length ≤ 15 ∧ ∃ kvs', mergeK [] (dtxt1 kvs) = dtxt1 kvs' ∧ Q (.dic (dtxt2 kvs')) ρ := rfl
theorem w_SE_dget2 {a b c : SE K} : (SE.dget2 a b c).wp PE ρ Q = (a.wp PE ρ fun x ρ1 => ∃ kvs, x = .dic kvs ∧ b.wp PE ρ1 fun y ρ2 => c.wp PE ρ2 fun w ρ3 => ∃ z : Str, y = .str z ∧ Q ((valP kvs (Sum.inr z)).getD w) ρ3) := rfl
end
end Tw
namespace Tw
open PySem PySem.Spec PyProof.Rows L2
namespace SG
variable {K : PySem.W.Frag} [Tbs K]
/-- (i, j), (k, l) = a list of two pairs -/
def pairs (i j k l : Nat) : SG K where
  rd := gUnl K 2 (gCons (gTup K 2 (gNames [i, j])) (gCons (gTup K 2 (gNames [k, l])) gNil))
  sl := [i, j, k, l]
  wp := fun x ρ P => ∃ a b c d : PV, x = .lst [.tup [a, b], .tup [c, d]] ∧ P (setAll (setAll ρ [i, j] [a, b]) [k, l] [c, d])
  ok := by
    intro dk F0 H0 F σ H ρ v x P Q I r h q
    obtain ⟨a, b, c, d, rfl, h⟩ := h
    cases r with
    | lst f s r =>
      cases r with
      | cons r1 r =>
        cases r with
        | cons r2 r =>
          cases r
          refine ⟨_, _, rfl, SqL.of s, rfl, ?_⟩
          refine ⟨_, _, rfl, ?_⟩
          refine (SG.tup (K := K) [i, j]).ok (P := fun ρ1 => P (setAll ρ1 [k, l] [c, d])) I r1 ⟨[a, b], rfl, rfl, h⟩ fun σ1 ρ1 e1 n1 I1 h1 => ?_
          refine ⟨_, _, rfl, ?_⟩
          refine (SG.tup (K := K) [k, l]).ok (P := P) I1 r2 ⟨[c, d], rfl, rfl, h1⟩ fun σ2 ρ2 e2 n2 I2 h2 => ?_
          refine ⟨rfl, ?_⟩
          refine q σ2 ρ2 (e2.trans e1) (fun m hm => ?_) I2 h2
          have hm1 : m ∉ [i, j] := fun z => hm (by simp at z ⊢; omega)
          have hm2 : m ∉ [k, l] := fun z => hm (by simp at z ⊢; omega)
          exact (n2 m hm2).trans (n1 m hm1)
end SG
theorem w_SG_pairs {K : PySem.W.Frag} [Tbs K] {i j k l : Nat} {x : PV} {ρ : Tw.Env} {P : Tw.Env → Prop} : (SG.pairs i j k l : SG K).wp x ρ P = ∃ a b c d : PV, x = .lst [.tup [a, b], .tup [c, d]] ∧ P (setAll (setAll ρ [i, j] [a, b]) [k, l] [c, d]) := rfl
end Tw
set_option Elab.async false
set_option linter.all false
set_option maxRecDepth 100000
set_option maxHeartbeats 4000000
/-! steps: blocks, goals, moves of a row -/
namespace Tw
open PySem PySem.Spec PyProof.Rows L2
local macro_rules | `(tactic| walk_at "wp") => `(tactic| try simp (config := { maxSteps := 1000000 }) only [↓w_SE_var, ↓w_SE_non, ↓w_SE_bl, ↓w_SE_int, ↓w_SE_str, ↓w_SE_op, ↓w_SE_un, ↓w_SE_cb, ↓w_SE_tup, ↓w_SE_lst, ↓w_SE_ifE, ↓w_SE_isN, ↓w_SE_notN, ↓w_SA_nil, ↓w_SA_cons, ↓w_ST_not, ↓w_ST_and, ↓w_ST_or, ↓w_ST_yes, ↓w_ST_tru, ↓w_SG_name, ↓w_SS_next, ↓w_SS_brk, ↓w_SS_cont, ↓w_SS_never, ↓w_SS_seq, ↓w_SS_cut, ↓w_SS_asg, ↓w_SS_drop, ↓w_SS_ret, ↓w_SS_retN, ↓w_SS_ifS, ↓w_SS_for_, ↓w_SS_while_, ↓w_SN_lst, ↓w_SE_nl, ↓w_SS_own, ↓w_SN_lc, ↓w_SE_call, ↓w_SE_callS, ↓w_SE_pop, ↓w_SP__no, ↓w_SS_raise0, ↓w_SS_raise1, ↓w_SS_raise2, ↓w_SS_tryO, ↓w_SS_tryA, ↓w_SS_tryM, ↓w_SE_xf, ↓w_SE_isE, ↓w_SE_popAt, ↓w_SN_slO, ↓w_SN_sortedS, ↓w_SN_sortedI, ↓w_SS_asg2, ↓w_SS_par, ↓w_SE_joined, ↓w_SE_join, ↓w_SE_txtB, ↓w_SE_lenSetT, ↓w_SE_chain, ↓w_SO_inSign, ↓w_SO_eqE, ↓w_SB_all_, ↓w_SB_repr, ↓c_i0, ↓c_c0, ↓c_iC, ↓c_addS, ↓c_repS, ↓c_catT, ↓c_ixS, ↓c_ixT, ↓c_ixL, ↓c_eq_ii, ↓c_eq_ss, ↓c_eq_ns, ↓c_eq_sn, ↓c_eq_bb, ↓c_eq_nn, ↓c_eq_ni, ↓c_eq_in, ↓c_ne_ii, ↓c_ne_ss, ↓c_ne_bb, ↓c_ne_ns, ↓c_ne_sn, ↓c_ne_nn, ↓c_ne_ni, ↓c_ne_in, ↓c_inST, ↓c_inSL, ↓c_lenS, ↓c_lenQt, ↓c_lenQl, ↓c_abs, ↓c_int1i, ↓c_int1b, ↓c_tupl, ↓c_tupt, ↓c_max2, ↓c_min2, ↓c_neg, ↓c_tst, ↓c_asI, ↓c_asS, ↓c_asT, ↓c_asL, ↓c_asQl, ↓c_asQt, ↓o_tt, ↓o_ts, ↓o_tl, ↓o_ti, ↓o_st, ↓o_ss, ↓o_sl_, ↓o_si, ↓o_lt, ↓o_ls, ↓o_ll, ↓o_li, ↓o_it, ↓o_is, ↓o_il, ↓o_ii, ↓o_bt, ↓o_bs, ↓o_bl_, ↓o_bi, ↓o_nt, ↓o_ns, ↓o_nl, ↓o_ni, ↓o_dt, ↓o_ds, ↓o_dl, ↓o_di, ↓v_test, ↓v_b, ↓v_andV, ↓v_orV, ↓v_notV, ↓v_isi, ↓v_at, ↓v_slS, ↓v_slT, ↓v_slL, ↓v_listOf, ↓v_revL, ↓v_revT, ↓v_cat, ↓v_rep, ↓v_ilist, ↓v_itup, ↓v_istr, ↓v_enumL, ↓v_enumT, ↓v_rng1, ↓v_rng2, ↓c_rng1, ↓c_rng2, ↓v_zipA, ↓c_zipt, ↓c_zipl, ↓v_gtup, ↓c_unp, ↓v_gunl, ↓c_unpL, ↓v_fmt, ↓c_fmts, ↓c_fmti, ↓v_js, ↓v_lenO, ↓v_tupO, ↓v_listO, ↓v_truO, ↓v_eqEO, ↓v_append, ↓v_ixO, ↓v_extendT, ↓v_extendL, ↓v_insert, ↓v_setL, ↓v_inO, ↓v_v0, ↓v_v0o, ↓v_v0d, ↓v_vs, ↓v_o0, ↓v_os, ↓v_d0, ↓v_ds, tr_non, tr_bl, tr_int, tr_str, tr_tup, tr_lst, tr_dic, in_non, in_bl, in_int, in_str, in_tup, in_lst, in_dic, we_nil, we_cons, sl_name, sl_tup, sl_unl, sa_nil, sa_cons, pr_val, pr_own, st_app, st_nil, js_nil, ↓w_for0, ↓w_for1, List.getElem?_cons_zero, List.getElem?_cons_succ, List.set_cons_zero, List.set_cons_succ, List.length_cons, List.length_nil, List.replicate_succ, List.replicate_zero, if_true, Bool.not_true, Bool.not_false, Bool.false_eq_true, if_false, ite_true, ite_false, decide_true, decide_false, Nat.reduceSub, Nat.reduceAdd, Nat.zero_add, true_and, and_true, ↓w_SS_par3, ↓w_SE_dnew, ↓w_SE_dcon, ↓w_SE_tupF, ↓w_SE_slF, ↓w_SE_tupleF, ↓w_SE_idxF, ↓c_catF, ↓c_inF, ↓c_ixF, ↓c_lenF, ↓w_SI_frt, ↓c_asF])
/-- both ends of a name -/
def bg (n : Str) : Str := en (true, n)
def ed (n : Str) : Str := en (false, n)
def movedL {α : Type} (r : List α) (b e g : Nat) : List α :=
  if g ≤ b then r.take g ++ (r.drop b).take (e - b) ++ (r.drop g).take (b - g) ++ r.drop e
  else r.take b ++ (r.drop e).take (g - e) ++ (r.drop b).take (e - b) ++ r.drop g
def aroundL (zs : List Str) (a b : Str) : Bool := decide (zs.idxOf (bg a) ≤ zs.idxOf (bg b)) && decide (zs.idxOf (bg b) < zs.idxOf (ed a))
section
variable {K : PySem.W.Frag} [Tbs K]
end
def goalL (zs : List Str) (w b : Str) : Nat :=
  if w = "first" then zs.idxOf (bg b) + 1 else if w = "last" then zs.idxOf (ed b) else if w = "ahead" then zs.idxOf (bg b) else zs.idxOf (ed b) + 1
section
variable {K : PySem.W.Frag} [Tbs K]
theorem at1 {x y : PV} {r : List PV} : L2.atI (x :: y :: r) (1 : Int) = some y := atI_nat (j := 1) rfl
end
end Tw
set_option Elab.async false
set_option linter.all false
set_option maxRecDepth 100000
set_option maxHeartbeats 4000000
/-! the row of a wood, laid frozen -/
namespace Tw
open PySem PySem.Spec PyProof.Rows L2
local macro_rules | `(tactic| walk_at "wp") => `(tactic| try simp (config := { maxSteps := 1000000 }) only [↓w_SE_var, ↓w_SE_non, ↓w_SE_bl, ↓w_SE_int, ↓w_SE_str, ↓w_SE_op, ↓w_SE_un, ↓w_SE_cb, ↓w_SE_tup, ↓w_SE_lst, ↓w_SE_ifE, ↓w_SE_isN, ↓w_SE_notN, ↓w_SA_nil, ↓w_SA_cons, ↓w_ST_not, ↓w_ST_and, ↓w_ST_or, ↓w_ST_yes, ↓w_ST_tru, ↓w_SG_name, ↓w_SS_next, ↓w_SS_brk, ↓w_SS_cont, ↓w_SS_never, ↓w_SS_seq, ↓w_SS_cut, ↓w_SS_asg, ↓w_SS_drop, ↓w_SS_ret, ↓w_SS_retN, ↓w_SS_ifS, ↓w_SS_for_, ↓w_SS_while_, ↓w_SN_lst, ↓w_SE_nl, ↓w_SS_own, ↓w_SN_lc, ↓w_SE_call, ↓w_SE_callS, ↓w_SE_pop, ↓w_SP__no, ↓w_SS_raise0, ↓w_SS_raise1, ↓w_SS_raise2, ↓w_SS_tryO, ↓w_SS_tryA, ↓w_SS_tryM, ↓w_SE_xf, ↓w_SE_isE, ↓w_SE_popAt, ↓w_SN_slO, ↓w_SN_sortedS, ↓w_SN_sortedI, ↓w_SS_asg2, ↓w_SS_par, ↓w_SE_joined, ↓w_SE_join, ↓w_SE_txtB, ↓w_SE_lenSetT, ↓w_SE_chain, ↓w_SO_inSign, ↓w_SO_eqE, ↓w_SB_all_, ↓w_SB_repr, ↓c_i0, ↓c_c0, ↓c_iC, ↓c_addS, ↓c_repS, ↓c_catT, ↓c_ixS, ↓c_ixT, ↓c_ixL, ↓c_eq_ii, ↓c_eq_ss, ↓c_eq_ns, ↓c_eq_sn, ↓c_eq_bb, ↓c_eq_nn, ↓c_eq_ni, ↓c_eq_in, ↓c_ne_ii, ↓c_ne_ss, ↓c_ne_bb, ↓c_ne_ns, ↓c_ne_sn, ↓c_ne_nn, ↓c_ne_ni, ↓c_ne_in, ↓c_inST, ↓c_inSL, ↓c_lenS, ↓c_lenQt, ↓c_lenQl, ↓c_abs, ↓c_int1i, ↓c_int1b, ↓c_tupl, ↓c_tupt, ↓c_max2, ↓c_min2, ↓c_neg, ↓c_tst, ↓c_asI, ↓c_asS, ↓c_asT, ↓c_asL, ↓c_asQl, ↓c_asQt, ↓o_tt, ↓o_ts, ↓o_tl, ↓o_ti, ↓o_st, ↓o_ss, ↓o_sl_, ↓o_si, ↓o_lt, ↓o_ls, ↓o_ll, ↓o_li, ↓o_it, ↓o_is, ↓o_il, ↓o_ii, ↓o_bt, ↓o_bs, ↓o_bl_, ↓o_bi, ↓o_nt, ↓o_ns, ↓o_nl, ↓o_ni, ↓o_dt, ↓o_ds, ↓o_dl, ↓o_di, ↓v_test, ↓v_b, ↓v_andV, ↓v_orV, ↓v_notV, ↓v_isi, ↓v_at, ↓v_slS, ↓v_slT, ↓v_slL, ↓v_listOf, ↓v_revL, ↓v_revT, ↓v_cat, ↓v_rep, ↓v_ilist, ↓v_itup, ↓v_istr, ↓v_enumL, ↓v_enumT, ↓v_rng1, ↓v_rng2, ↓c_rng1, ↓c_rng2, ↓v_zipA, ↓c_zipt, ↓c_zipl, ↓v_gtup, ↓c_unp, ↓v_gunl, ↓c_unpL, ↓v_fmt, ↓c_fmts, ↓c_fmti, ↓v_js, ↓v_lenO, ↓v_tupO, ↓v_listO, ↓v_truO, ↓v_eqEO, ↓v_append, ↓v_ixO, ↓v_extendT, ↓v_extendL, ↓v_insert, ↓v_setL, ↓v_inO, ↓v_v0, ↓v_v0o, ↓v_v0d, ↓v_vs, ↓v_o0, ↓v_os, ↓v_d0, ↓v_ds, tr_non, tr_bl, tr_int, tr_str, tr_tup, tr_lst, tr_dic, in_non, in_bl, in_int, in_str, in_tup, in_lst, in_dic, we_nil, we_cons, sl_name, sl_tup, sl_unl, sa_nil, sa_cons, pr_val, pr_own, st_app, st_nil, js_nil, ↓w_for0, ↓w_for1, List.getElem?_cons_zero, List.getElem?_cons_succ, List.set_cons_zero, List.set_cons_succ, List.length_cons, List.length_nil, List.replicate_succ, List.replicate_zero, if_true, Bool.not_true, Bool.not_false, Bool.false_eq_true, if_false, ite_true, ite_false, decide_true, decide_false, Nat.reduceSub, Nat.reduceAdd, Nat.zero_add, true_and, and_true, ↓w_SS_par3, ↓w_SE_dnew, ↓w_SE_dcon, ↓w_SE_tupF, ↓w_SE_slF, ↓w_SE_tupleF, ↓w_SE_idxF, ↓c_catF, ↓c_inF, ↓c_ixF, ↓c_lenF, ↓w_SI_frt, ↓c_asF])
/-- what still has to be walked: an end, or a tree -/
inductive Tk1 where
  | e (x : En)
  | t (n : Str) (ks : Fo)
def Tk1.pv : Tk1 → PV
  | .e x => .str (en x)
  | .t n ks => .tup [.str n, ks.pv]
def Tk1.row : Tk1 → List En
  | .e x => [x]
  | .t n ks => (true, n) :: (ks.erow ++ [(false, n)])
def Tk1.wt : Tk1 → Nat
  | .e _ => 1
  | .t _ ks => 2 * (ks.nm.length + 1)
section
variable {K : PySem.W.Frag} [Tbs K]
end
end Tw
set_option Elab.async false
set_option linter.all false
set_option maxRecDepth 100000
set_option maxHeartbeats 4000000
/-! steps: swap and turn -/
namespace Tw
open PySem PySem.Spec PyProof.Rows L2
local macro_rules | `(tactic| walk_at "wp") => `(tactic| try simp (config := { maxSteps := 1000000 }) only [↓w_SE_var, ↓w_SE_non, ↓w_SE_bl, ↓w_SE_int, ↓w_SE_str, ↓w_SE_op, ↓w_SE_un, ↓w_SE_cb, ↓w_SE_tup, ↓w_SE_lst, ↓w_SE_ifE, ↓w_SE_isN, ↓w_SE_notN, ↓w_SA_nil, ↓w_SA_cons, ↓w_ST_not, ↓w_ST_and, ↓w_ST_or, ↓w_ST_yes, ↓w_ST_tru, ↓w_SG_name, ↓w_SS_next, ↓w_SS_brk, ↓w_SS_cont, ↓w_SS_never, ↓w_SS_seq, ↓w_SS_cut, ↓w_SS_asg, ↓w_SS_drop, ↓w_SS_ret, ↓w_SS_retN, ↓w_SS_ifS, ↓w_SS_for_, ↓w_SS_while_, ↓w_SN_lst, ↓w_SE_nl, ↓w_SS_own, ↓w_SN_lc, ↓w_SE_call, ↓w_SE_callS, ↓w_SE_pop, ↓w_SP__no, ↓w_SS_raise0, ↓w_SS_raise1, ↓w_SS_raise2, ↓w_SS_tryO, ↓w_SS_tryA, ↓w_SS_tryM, ↓w_SE_xf, ↓w_SE_isE, ↓w_SE_popAt, ↓w_SN_slO, ↓w_SN_sortedS, ↓w_SN_sortedI, ↓w_SS_asg2, ↓w_SS_par, ↓w_SE_joined, ↓w_SE_join, ↓w_SE_txtB, ↓w_SE_lenSetT, ↓w_SE_chain, ↓w_SO_inSign, ↓w_SO_eqE, ↓w_SB_all_, ↓w_SB_repr, ↓c_i0, ↓c_c0, ↓c_iC, ↓c_addS, ↓c_repS, ↓c_catT, ↓c_ixS, ↓c_ixT, ↓c_ixL, ↓c_eq_ii, ↓c_eq_ss, ↓c_eq_ns, ↓c_eq_sn, ↓c_eq_bb, ↓c_eq_nn, ↓c_eq_ni, ↓c_eq_in, ↓c_ne_ii, ↓c_ne_ss, ↓c_ne_bb, ↓c_ne_ns, ↓c_ne_sn, ↓c_ne_nn, ↓c_ne_ni, ↓c_ne_in, ↓c_inST, ↓c_inSL, ↓c_lenS, ↓c_lenQt, ↓c_lenQl, ↓c_abs, ↓c_int1i, ↓c_int1b, ↓c_tupl, ↓c_tupt, ↓c_max2, ↓c_min2, ↓c_neg, ↓c_tst, ↓c_asI, ↓c_asS, ↓c_asT, ↓c_asL, ↓c_asQl, ↓c_asQt, ↓o_tt, ↓o_ts, ↓o_tl, ↓o_ti, ↓o_st, ↓o_ss, ↓o_sl_, ↓o_si, ↓o_lt, ↓o_ls, ↓o_ll, ↓o_li, ↓o_it, ↓o_is, ↓o_il, ↓o_ii, ↓o_bt, ↓o_bs, ↓o_bl_, ↓o_bi, ↓o_nt, ↓o_ns, ↓o_nl, ↓o_ni, ↓o_dt, ↓o_ds, ↓o_dl, ↓o_di, ↓v_test, ↓v_b, ↓v_andV, ↓v_orV, ↓v_notV, ↓v_isi, ↓v_at, ↓v_slS, ↓v_slT, ↓v_slL, ↓v_listOf, ↓v_revL, ↓v_revT, ↓v_cat, ↓v_rep, ↓v_ilist, ↓v_itup, ↓v_istr, ↓v_enumL, ↓v_enumT, ↓v_rng1, ↓v_rng2, ↓c_rng1, ↓c_rng2, ↓v_zipA, ↓c_zipt, ↓c_zipl, ↓v_gtup, ↓c_unp, ↓v_gunl, ↓c_unpL, ↓v_fmt, ↓c_fmts, ↓c_fmti, ↓v_js, ↓v_lenO, ↓v_tupO, ↓v_listO, ↓v_truO, ↓v_eqEO, ↓v_append, ↓v_ixO, ↓v_extendT, ↓v_extendL, ↓v_insert, ↓v_setL, ↓v_inO, ↓v_v0, ↓v_v0o, ↓v_v0d, ↓v_vs, ↓v_o0, ↓v_os, ↓v_d0, ↓v_ds, tr_non, tr_bl, tr_int, tr_str, tr_tup, tr_lst, tr_dic, in_non, in_bl, in_int, in_str, in_tup, in_lst, in_dic, we_nil, we_cons, sl_name, sl_tup, sl_unl, sa_nil, sa_cons, pr_val, pr_own, st_app, st_nil, js_nil, ↓w_for0, ↓w_for1, List.getElem?_cons_zero, List.getElem?_cons_succ, List.set_cons_zero, List.set_cons_succ, List.length_cons, List.length_nil, List.replicate_succ, List.replicate_zero, if_true, Bool.not_true, Bool.not_false, Bool.false_eq_true, if_false, ite_true, ite_false, decide_true, decide_false, Nat.reduceSub, Nat.reduceAdd, Nat.zero_add, true_and, and_true, ↓w_SS_par3, ↓w_SE_dnew, ↓w_SE_dcon, ↓w_SE_tupF, ↓w_SE_slF, ↓w_SE_tupleF, ↓w_SE_idxF, ↓c_catF, ↓c_inF, ↓c_ixF, ↓c_lenF, ↓w_SI_frt, ↓c_asF, ↓w_SN_sortedP, ↓w_SG_pairs, ↓w_SE_dtxt, ↓w_SE_dget2])
def swapL {α : Type} (r : List α) (p q : Nat × Nat) : List α := r.take p.1 ++ (r.drop q.1).take (q.2 - q.1) ++ (r.drop p.2).take (q.1 - p.2) ++ (r.drop p.1).take (p.2 - p.1) ++ r.drop q.2
def blk (zs : List Str) (n : Str) : Nat × Nat := (zs.idxOf (bg n), zs.idxOf (ed n) + 1)
def turnS (a b z : Str) : Str := if z = bg a then bg b else if z = ed a then ed b else if z = bg b then bg a else if z = ed b then ed a else z
section
variable {K : PySem.W.Frag} [Tbs K]
end
end Tw
set_option Elab.async false
set_option linter.all false
set_option maxRecDepth 100000
set_option maxHeartbeats 4000000
/-! steps: the row behind a deed -/
namespace Tw
open PySem PySem.Spec PyProof.Rows L2
local macro_rules | `(tactic| walk_at "wp") => `(tactic| try simp (config := { maxSteps := 1000000 }) only [↓w_SE_var, ↓w_SE_non, ↓w_SE_bl, ↓w_SE_int, ↓w_SE_str, ↓w_SE_op, ↓w_SE_un, ↓w_SE_cb, ↓w_SE_tup, ↓w_SE_lst, ↓w_SE_ifE, ↓w_SE_isN, ↓w_SE_notN, ↓w_SA_nil, ↓w_SA_cons, ↓w_ST_not, ↓w_ST_and, ↓w_ST_or, ↓w_ST_yes, ↓w_ST_tru, ↓w_SG_name, ↓w_SS_next, ↓w_SS_brk, ↓w_SS_cont, ↓w_SS_never, ↓w_SS_seq, ↓w_SS_cut, ↓w_SS_asg, ↓w_SS_drop, ↓w_SS_ret, ↓w_SS_retN, ↓w_SS_ifS, ↓w_SS_for_, ↓w_SS_while_, ↓w_SN_lst, ↓w_SE_nl, ↓w_SS_own, ↓w_SN_lc, ↓w_SE_call, ↓w_SE_callS, ↓w_SE_pop, ↓w_SP__no, ↓w_SS_raise0, ↓w_SS_raise1, ↓w_SS_raise2, ↓w_SS_tryO, ↓w_SS_tryA, ↓w_SS_tryM, ↓w_SE_xf, ↓w_SE_isE, ↓w_SE_popAt, ↓w_SN_slO, ↓w_SN_sortedS, ↓w_SN_sortedI, ↓w_SS_asg2, ↓w_SS_par, ↓w_SE_joined, ↓w_SE_join, ↓w_SE_txtB, ↓w_SE_lenSetT, ↓w_SE_chain, ↓w_SO_inSign, ↓w_SO_eqE, ↓w_SB_all_, ↓w_SB_repr, ↓c_i0, ↓c_c0, ↓c_iC, ↓c_addS, ↓c_repS, ↓c_catT, ↓c_ixS, ↓c_ixT, ↓c_ixL, ↓c_eq_ii, ↓c_eq_ss, ↓c_eq_ns, ↓c_eq_sn, ↓c_eq_bb, ↓c_eq_nn, ↓c_eq_ni, ↓c_eq_in, ↓c_ne_ii, ↓c_ne_ss, ↓c_ne_bb, ↓c_ne_ns, ↓c_ne_sn, ↓c_ne_nn, ↓c_ne_ni, ↓c_ne_in, ↓c_inST, ↓c_inSL, ↓c_lenS, ↓c_lenQt, ↓c_lenQl, ↓c_abs, ↓c_int1i, ↓c_int1b, ↓c_tupl, ↓c_tupt, ↓c_max2, ↓c_min2, ↓c_neg, ↓c_tst, ↓c_asI, ↓c_asS, ↓c_asT, ↓c_asL, ↓c_asQl, ↓c_asQt, ↓o_tt, ↓o_ts, ↓o_tl, ↓o_ti, ↓o_st, ↓o_ss, ↓o_sl_, ↓o_si, ↓o_lt, ↓o_ls, ↓o_ll, ↓o_li, ↓o_it, ↓o_is, ↓o_il, ↓o_ii, ↓o_bt, ↓o_bs, ↓o_bl_, ↓o_bi, ↓o_nt, ↓o_ns, ↓o_nl, ↓o_ni, ↓o_dt, ↓o_ds, ↓o_dl, ↓o_di, ↓v_test, ↓v_b, ↓v_andV, ↓v_orV, ↓v_notV, ↓v_isi, ↓v_at, ↓v_slS, ↓v_slT, ↓v_slL, ↓v_listOf, ↓v_revL, ↓v_revT, ↓v_cat, ↓v_rep, ↓v_ilist, ↓v_itup, ↓v_istr, ↓v_enumL, ↓v_enumT, ↓v_rng1, ↓v_rng2, ↓c_rng1, ↓c_rng2, ↓v_zipA, ↓c_zipt, ↓c_zipl, ↓v_gtup, ↓c_unp, ↓v_gunl, ↓c_unpL, ↓v_fmt, ↓c_fmts, ↓c_fmti, ↓v_js, ↓v_lenO, ↓v_tupO, ↓v_listO, ↓v_truO, ↓v_eqEO, ↓v_append, ↓v_ixO, ↓v_extendT, ↓v_extendL, ↓v_insert, ↓v_setL, ↓v_inO, ↓v_v0, ↓v_v0o, ↓v_v0d, ↓v_vs, ↓v_o0, ↓v_os, ↓v_d0, ↓v_ds, tr_non, tr_bl, tr_int, tr_str, tr_tup, tr_lst, tr_dic, in_non, in_bl, in_int, in_str, in_tup, in_lst, in_dic, we_nil, we_cons, sl_name, sl_tup, sl_unl, sa_nil, sa_cons, pr_val, pr_own, st_app, st_nil, js_nil, ↓w_for0, ↓w_for1, List.getElem?_cons_zero, List.getElem?_cons_succ, List.set_cons_zero, List.set_cons_succ, List.length_cons, List.length_nil, List.replicate_succ, List.replicate_zero, if_true, Bool.not_true, Bool.not_false, Bool.false_eq_true, if_false, ite_true, ite_false, decide_true, decide_false, Nat.reduceSub, Nat.reduceAdd, Nat.zero_add, true_and, and_true, ↓w_SS_par3, ↓w_SE_dnew, ↓w_SE_dcon, ↓w_SE_tupF, ↓w_SE_slF, ↓w_SE_tupleF, ↓w_SE_idxF, ↓c_catF, ↓c_inF, ↓c_ixF, ↓c_lenF, ↓w_SI_frt, ↓c_asF, ↓w_SN_sortedP, ↓w_SG_pairs, ↓w_SE_dtxt, ↓w_SE_dget2])
def ones : List Str := ["front", "back", "lift", "cut"]
def behindL (zs : List Str) (w a b : Str) : List Str :=
  if w = "swap" then (if zs.idxOf (bg a) < zs.idxOf (bg b) then swapL zs (blk zs a) (blk zs b) else swapL zs (blk zs b) (blk zs a))
  else if w = "turn" then zs.map (turnS a b)
  else if w = "lift" then zs.filter (fun z => decide (z ∉ [bg a, ed a]))
  else if w = "put" then zs.take (zs.idxOf (ed b)) ++ [bg a, ed a] ++ zs.drop (zs.idxOf (ed b))
  else if w = "cut" then zs.take (zs.idxOf (bg a)) ++ zs.drop (zs.idxOf (ed a) + 1)
  else if w = "wrap" then zs.take (zs.idxOf (bg a)) ++ [bg b] ++ (zs.drop (zs.idxOf (bg a))).take (zs.idxOf (ed a) + 1 - zs.idxOf (bg a)) ++ [ed b] ++ zs.drop (zs.idxOf (ed a) + 1)
  else if w = "pour" then movedL zs (zs.idxOf (bg a) + 1) (zs.idxOf (ed a)) (zs.idxOf (ed b))
  else movedL zs (zs.idxOf (bg a)) (zs.idxOf (ed a) + 1) (if w = "front" then 0 else if w = "back" then zs.length else goalL zs w b)
section
variable {K : PySem.W.Frag} [Tbs K]
end
end Tw
set_option Elab.async false
set_option linter.all false
set_option maxRecDepth 100000
set_option maxHeartbeats 4000000
/-! places of ends in a row -/
namespace Tw
open PySem PySem.Spec PyProof.Rows L2 TL
local macro_rules | `(tactic| walk_at "rd") => `(tactic| try simp only [o_op, o_un, o_var, o_c, o_cb, o_call, o_cons, o_nil, o_tup, o_lst, o_I0, o_I, o_int1, o_intb, o_abs, o_test, o_b, o_not, o_and, o_or, o_andV, o_orV, o_notV, o_ifE, o_isN, o_notN, o_eq, o_ne, o_seq, o_next, o_asg, o_name, o_sub, o_par, o_par3, o_drop, o_ret, o_retN, o_ifS, o_sl, o_noPart, o_part, o_bm, o_bm0, o_m0, o_m1, o_dget, o_dput, o_din, o_dnotin, o_listKeys, e_bl, e_int, e_str, e_some, e_two, e_three, o_for, o_lc, o_iList, o_iTup, o_iRng1, e_int1, e_ref, o_yes, o_wipe0, o_wipe1, o_disp, o_dnew, o_pairs0, o_pairs1, o_lock, o_keysM, o_gtup, o_gcons, o_gnil, o_rU, o_tru, o_revT, o_enumT, o_from, true_and, if_pos, List.getElem?_cons_zero, List.getElem?_cons_succ, List.set_cons_zero, List.set_cons_succ, List.append_nil])
theorem erow_nodup : ∀ {f : Fo}, f.nm.Nodup → f.erow.Nodup
  | .nil, _ => List.nodup_nil
  | .cons n ks r, nd => by
    have nd2 : (n :: (ks.nm ++ r.nm)).Nodup := nd
    rw [List.nodup_cons, List.nodup_append] at nd2
    obtain ⟨hn, ndk, ndr, dis⟩ := nd2
    have hk := erow_nodup ndk
    have hr := erow_nodup ndr
    have nk : ∀ b, (b, n) ∉ ks.erow := fun b h => hn (List.mem_append_left _ (erow_nm ks _ h))
    have nr : ∀ b, (b, n) ∉ r.erow := fun b h => hn (List.mem_append_right _ (erow_nm r _ h))
    show ((true, n) :: (ks.erow ++ (false, n) :: r.erow)).Nodup
    refine List.nodup_cons.mpr ⟨fun h => ?_, List.nodup_append.mpr ⟨hk, List.nodup_cons.mpr ⟨nr false, hr⟩, fun x hx y hy e => ?_⟩⟩
    · rcases List.mem_append.mp h with h | h
      · exact nk true h
      · rcases List.mem_cons.mp h with h | h
        · cases h
        · exact nr true h
    · subst e
      rcases List.mem_cons.mp hy with h | h
      · exact nk false (h ▸ hx)
      · exact dis _ (erow_nm ks _ hx) _ (erow_nm r _ h) rfl
/-- a dict comprehension over what J walks -/
def DcB (J : It) (g : TG) (tt : TT) (tk tv : TE) (vs : List Nat) (σ : L2.St) (H : Hp) (Q : VK) : Prop := tDc (fun _ _ R => R J H) g tt tk tv vs σ H Q
theorem o_dc {wi : TI} {g : TG} {tt : TT} {tk tv : TE} {vs : List Nat} {σ : L2.St} {H : Hp} {Q : VK} : tDc wi g tt tk tv vs σ H Q = wi σ H fun J H1 => DcB J g tt tk tv vs σ H1 Q := rfl
theorem db_walk {J : It} {n : Nat} {G : Hp → Prop} {Y : Nat → Hp → V → Hp → Prop} {g : TG} {tt : TT} {tk tv : TE} {vs : List Nat} {σ : L2.St} {H : Hp} {Q : VK} (wk : Walk J n G Y) (Pv : Addr → Nat → Hp → Prop) (h0 : ∀ D, H D = none → Pv D 0 (upd H D (.dK []))) (hG : ∀ D i H, i ≤ n → Pv D i H → G H)
    (hs : ∀ D i x H H', i < n → Pv D i H → Y i H x H' → g x (wipe σ vs) H' fun σ2 H2 => wipe σ2 vs = wipe σ vs ∧ tt σ2 H2 fun b H3 =>
      if b = true then tk σ2 H3 fun y H4 => tv σ2 H4 fun z H5 => ∃ kvs k, y = kV k ∧ H5 D = some (.dK kvs) ∧ kvs.length < sizeLine ∧ Pv D (i + 1) (upd H5 D (.dK (putK kvs k z))) else Pv D (i + 1) H3) (hd : ∀ D H', H D = none → Pv D n H' → Q (.ref D) H') : DcB J g tt tk tv vs σ H Q := by
  intro D hD
  refine ⟨fun i m H' => m = n - i ∧ i ≤ n ∧ Pv D i H', ⟨n, rfl, Nat.zero_le _, h0 D hD⟩, ?_⟩
  rintro i m H' ⟨rfl, hi, p⟩
  have q := hG D i H' hi p
  rcases Nat.lt_or_eq_of_le hi with hlt | rfl
  · exact .inr ⟨wk.goes i H' hlt q, Pv D (i + 1), fun H2 p2 => ⟨n - (i + 1), by omega, rfl, hlt, p2⟩, fun x H2 y => hs D i x H' H2 hlt p (wk.yields i H' x H2 hlt q y)⟩
  · exact .inl ⟨wk.stops H' q, hd D H' hD p⟩
section
variable {K : PySem.W.Frag}
end
end Tw
set_option Elab.async false
set_option linter.all false
set_option maxRecDepth 100000
set_option maxHeartbeats 4000000
/-! in and ahead -/
namespace Tw
open PySem PySem.Spec PyProof.Rows L2 TL
local macro_rules | `(tactic| walk_at "rd") => `(tactic| try simp only [o_op, o_un, o_var, o_c, o_cb, o_call, o_cons, o_nil, o_tup, o_lst, o_I0, o_I, o_int1, o_intb, o_abs, o_test, o_b, o_not, o_and, o_or, o_andV, o_orV, o_notV, o_ifE, o_isN, o_notN, o_eq, o_ne, o_seq, o_next, o_asg, o_name, o_sub, o_par, o_par3, o_drop, o_ret, o_retN, o_ifS, o_sl, o_noPart, o_part, o_bm, o_bm0, o_m0, o_m1, o_dget, o_dput, o_din, o_dnotin, o_listKeys, e_bl, e_int, e_str, e_some, e_two, e_three, o_for, o_lc, o_iList, o_iTup, o_iRng1, e_int1, e_ref, o_yes, o_wipe0, o_wipe1, o_disp, o_dnew, o_pairs0, o_pairs1, o_lock, o_keysM, o_gtup, o_gcons, o_gnil, o_rU, o_tru, o_revT, o_enumT, o_from, true_and, if_pos, List.getElem?_cons_zero, List.getElem?_cons_succ, List.set_cons_zero, List.set_cons_succ, List.append_nil])
/-- the place of an end -/
def ix (f : Fo) (b : Bool) (n : Str) : Nat := f.erow.idxOf (b, n)
theorem nm_erow : ∀ {f : Fo} {n : Str} (b : Bool), n ∈ f.nm → (b, n) ∈ f.erow
  | .cons m ks r, n, b, h => by
    rcases List.mem_cons.mp (show n ∈ m :: (ks.nm ++ r.nm) from h) with e | h
    · subst e
      cases b
      · exact List.mem_cons_of_mem _ (List.mem_append_right _ (List.mem_cons_self ..))
      · exact List.mem_cons_self ..
    · rcases List.mem_append.mp h with h | h
      · exact List.mem_cons_of_mem _ (List.mem_append_left _ (nm_erow b h))
      · exact List.mem_cons_of_mem _ (List.mem_append_right _ (List.mem_cons_of_mem _ (nm_erow b h)))
abbrev inB (f : Fo) (x y : Str) : Bool := decide ((ix f true y : Int) < ix f true x) && decide ((ix f true x : Int) < ix f false y)
section
variable {K : PySem.W.Frag}
end
end Tw
set_option Elab.async false
set_option linter.all false
set_option maxRecDepth 100000
set_option maxHeartbeats 4000000
/-! of two unlike nodes: one in the other, or one ahead -/
namespace Tw
open PySem PySem.Spec PyProof.Rows L2 TL
theorem ix_lt {f : Fo} {n : Str} (b : Bool) (h : n ∈ f.nm) : ix f b n < f.erow.length := List.idxOf_lt_length_iff.mpr (nm_erow b h)
theorem idx_ne {a b : En} {l : List En} (h : a ≠ b) : (a :: l).idxOf b = l.idxOf b + 1 := by
  rw [List.idxOf_cons]
  have : (a == b) = false := beq_eq_false_iff_ne.mpr h
  rw [this]; rfl
theorem idx_in {b : En} {l m : List En} (h : b ∈ l) : (l ++ m).idxOf b = l.idxOf b := by rw [List.idxOf_append, if_pos h]
theorem idx_out {b : En} {l m : List En} (h : b ∉ l) : (l ++ m).idxOf b = l.length + m.idxOf b := by rw [List.idxOf_append, if_neg h]; omega
theorem ix_first (n : Str) (ks r : Fo) : ix (.cons n ks r) true n = 0 := by
  show ((true, n) :: (ks.erow ++ (false, n) :: r.erow)).idxOf (true, n) = 0
  simp
theorem ix_second {n : Str} {ks r : Fo} (h : n ∉ ks.nm) : ix (.cons n ks r) false n = ks.erow.length + 1 := by
  have h2 : (false, n) ∉ ks.erow := fun hm => h (erow_nm ks _ hm)
  show ((true, n) :: (ks.erow ++ (false, n) :: r.erow)).idxOf (false, n) = _
  rw [idx_ne (by intro e; cases e), idx_out h2, List.idxOf_cons_self]
theorem ix_kids {n m : Str} {ks r : Fo} (b : Bool) (hn : n ∉ ks.nm) (h : m ∈ ks.nm) : ix (.cons n ks r) b m = ix ks b m + 1 := by
  have e : (true, n) ≠ (b, m) := fun e => hn (by cases e; exact h)
  show ((true, n) :: (ks.erow ++ (false, n) :: r.erow)).idxOf (b, m) = _
  rw [idx_ne e, idx_in (nm_erow b h)]; rfl
theorem ix_rest {n m : Str} {ks r : Fo} (b : Bool) (hn : n ≠ m) (hk : m ∉ ks.nm) : ix (.cons n ks r) b m = ks.erow.length + 2 + ix r b m := by
  have e1 : (true, n) ≠ (b, m) := fun e => hn (by cases e; rfl)
  have e2 : (false, n) ≠ (b, m) := fun e => hn (by cases e; rfl)
  have h2 : (b, m) ∉ ks.erow := fun hm => hk (erow_nm ks _ hm)
  show ((true, n) :: (ks.erow ++ (false, n) :: r.erow)).idxOf (b, m) = _
  rw [idx_ne e1, idx_out h2, idx_ne e2]
  show ks.erow.length + (ix r b m + 1) + 1 = _
  omega
/-- how two nodes lie -/
def Lie (f : Fo) (x y : Str) : Prop := (ix f true y < ix f true x ∧ ix f false x < ix f false y) ∨ (ix f true x < ix f true y ∧ ix f false y < ix f false x) ∨ ix f false x < ix f true y ∨ ix f false y < ix f true x
theorem lie : ∀ {f : Fo} {x y : Str}, f.nm.Nodup → x ∈ f.nm → y ∈ f.nm → x ≠ y → Lie f x y
  | .cons m ks r, x, y, nd, hx, hy, ne => by
    have nd2 : (m :: (ks.nm ++ r.nm)).Nodup := nd
    rw [List.nodup_cons, List.nodup_append] at nd2
    obtain ⟨hm, ndk, ndr, dis⟩ := nd2
    have hmk : m ∉ ks.nm := fun z => hm (List.mem_append_left _ z)
    have hmr : m ∉ r.nm := fun z => hm (List.mem_append_right _ z)
    have inr : ∀ {n}, n ∈ r.nm → m ≠ n ∧ n ∉ ks.nm := fun {n} h => ⟨fun z => hmr (z ▸ h), fun z => dis n z n h rfl⟩
    unfold Lie
    rcases List.mem_cons.mp (show x ∈ m :: (ks.nm ++ r.nm) from hx) with ex | hx2
    · subst ex
      rcases List.mem_cons.mp (show y ∈ x :: (ks.nm ++ r.nm) from hy) with ey | hy
      · exact absurd ey.symm ne
      · rw [ix_first, ix_second hmk]
        rcases List.mem_append.mp hy with hy | hy
        · have := ix_lt false hy
          rw [ix_kids true hmk hy, ix_kids false hmk hy]; omega
        · obtain ⟨a, b⟩ := inr hy
          rw [ix_rest true a b, ix_rest false a b]; omega
    · rcases List.mem_cons.mp (show y ∈ m :: (ks.nm ++ r.nm) from hy) with ey | hy
      · subst ey
        rw [ix_first, ix_second hmk]
        rcases List.mem_append.mp hx2 with hx | hx
        · have := ix_lt false hx
          rw [ix_kids true hmk hx, ix_kids false hmk hx]; omega
        · obtain ⟨a, b⟩ := inr hx
          rw [ix_rest true a b, ix_rest false a b]; omega
      · rcases List.mem_append.mp hx2 with hx | hx <;> rcases List.mem_append.mp hy with hy | hy
        · have h := lie ndk hx hy ne
          unfold Lie at h
          rw [ix_kids true hmk hx, ix_kids false hmk hx, ix_kids true hmk hy, ix_kids false hmk hy]; omega
        · obtain ⟨a, b⟩ := inr hy
          have := ix_lt false hx
          rw [ix_kids true hmk hx, ix_kids false hmk hx, ix_rest true a b, ix_rest false a b]; omega
        · obtain ⟨a, b⟩ := inr hx
          have := ix_lt false hy
          rw [ix_kids true hmk hy, ix_kids false hmk hy, ix_rest true a b, ix_rest false a b]; omega
        · obtain ⟨a, b⟩ := inr hx
          obtain ⟨c, d⟩ := inr hy
          have h := lie ndr hx hy ne
          unfold Lie at h
          rw [ix_rest true a b, ix_rest false a b, ix_rest true c d, ix_rest false c d]; omega
end Tw
set_option Elab.async false
set_option linter.all false
set_option maxRecDepth 100000
set_option maxHeartbeats 4000000
/-! the law's row, as a tuple on which a method may be called -/
namespace Tw
open PySem PySem.Spec PyProof.Rows L2 TL
local macro_rules | `(tactic| walk_at "rd") => `(tactic| try simp only [o_op, o_un, o_var, o_c, o_cb, o_call, o_cons, o_nil, o_tup, o_lst, o_I0, o_I, o_int1, o_intb, o_abs, o_test, o_b, o_not, o_and, o_or, o_andV, o_orV, o_notV, o_ifE, o_isN, o_notN, o_eq, o_ne, o_seq, o_next, o_asg, o_name, o_sub, o_par, o_par3, o_drop, o_ret, o_retN, o_ifS, o_sl, o_noPart, o_part, o_bm, o_bm0, o_m0, o_m1, o_dget, o_dput, o_din, o_dnotin, o_listKeys, e_bl, e_int, e_str, e_some, e_two, e_three, o_for, o_lc, o_iList, o_iTup, o_iRng1, e_int1, e_ref, o_yes, o_wipe0, o_wipe1, o_disp, o_dnew, o_pairs0, o_pairs1, o_lock, o_keysM, o_gtup, o_gcons, o_gnil, o_rU, o_tru, o_revT, o_enumT, o_from, true_and, if_pos, List.getElem?_cons_zero, List.getElem?_cons_succ, List.set_cons_zero, List.set_cons_succ, List.append_nil])
/-- a row: a tuple, and laid without a dict where it is not empty -/
def RowD (K : PySem.W.Frag) (H : Hp) (p : Addr) (zs : List Str) : Prop := SqT K H p (zs.map V.str) ∧ (zs ≠ [] → TD H p (zs.map V.str))
theorem RowD.kp {K : PySem.W.Frag} {H H' : Hp} {p : Addr} {zs : List Str} (h : RowD K H p zs) (k : Kp H H') : RowD K H' p zs := ⟨Tk.kp k _ _ h.1, fun e => (h.2 e).kp k⟩
section
variable {K : PySem.W.Frag}
end
end Tw
set_option Elab.async false
set_option linter.all false
set_option maxRecDepth 100000
set_option maxHeartbeats 4000000
/-! rows as balanced lists of ends; what a deed makes of a row is a row -/
namespace Tw
open PySem PySem.Spec PyProof.Rows L2
/-- what is open behind these ends, the innermost first -/
def opn1 : List Str → List En → Option (List Str)
  | st, [] => some st
  | st, (true, n) :: es => opn1 (n :: st) es
  | [], (false, _) :: _ => none
  | m :: st, (false, n) :: es => if m = n then opn1 st es else none
theorem opn1_app : ∀ (es fs : List En) (st : List Str), opn1 st (es ++ fs) = (opn1 st es).bind fun st' => opn1 st' fs
  | [], _, _ => rfl
  | (true, n) :: es, fs, st => by
    show opn1 (n :: st) (es ++ fs) = _
    rw [opn1_app es fs]; rfl
  | (false, n) :: es, fs, [] => rfl
  | (false, n) :: es, fs, m :: st => by
    show (if m = n then opn1 st (es ++ fs) else none) = (if m = n then opn1 st es else none).bind _
    by_cases h : m = n
    · rw [if_pos h, if_pos h, opn1_app es fs]
    · rw [if_neg h, if_neg h]; rfl
theorem opn1_more (x : List Str) : ∀ (es : List En) (st st' : List Str), opn1 st es = some st' → opn1 (st ++ x) es = some (st' ++ x)
  | [], st, st', h => by cases h; rfl
  | (true, n) :: es, st, st', h => opn1_more x es (n :: st) st' h
  | (false, n) :: es, [], st', h => by cases h
  | (false, n) :: es, m :: st, st', h => by
    have h' : (if m = n then opn1 st es else none) = some st' := h
    show (if m = n then opn1 (st ++ x) es else none) = _
    by_cases e : m = n
    · rw [if_pos e] at h' ⊢; exact opn1_more x es st st' h'
    · rw [if_neg e] at h'; cases h'
/-- balanced -/
def Bl (es : List En) : Prop := opn1 [] es = some []
theorem Bl.run {es : List En} (h : Bl es) (st : List Str) : opn1 st es = some st := by
  have := opn1_more st es [] [] h
  simpa using this
theorem Bl.nil : Bl [] := rfl
theorem Bl.ins {x b y : List En} (h : Bl b) : Bl (x ++ (b ++ y)) ↔ Bl (x ++ y) := by
  unfold Bl
  rw [opn1_app, opn1_app]
  cases opn1 [] x with
  | none => exact Iff.rfl
  | some st =>
    show opn1 st (b ++ y) = _ ↔ opn1 st y = _
    rw [opn1_app, h.run st]
    exact Iff.rfl
theorem Bl.app {x y : List En} (h : Bl x) (g : Bl y) : Bl (x ++ y) := by
  unfold Bl; rw [opn1_app, h.run]; exact g
theorem Bl.wrap {b : List En} (h : Bl b) (n : Str) : Bl ((true, n) :: (b ++ [(false, n)])) := by
  show opn1 [n] (b ++ [(false, n)]) = _
  rw [opn1_app, h.run]
  show (if n = n then opn1 [] [] else none) = _
  rw [if_pos rfl]; rfl
theorem bl_row : ∀ f : Fo, Bl f.erow
  | .nil => rfl
  | .cons n ks r => by
    have := Bl.app ((bl_row ks).wrap n) (bl_row r)
    simpa [Fo.erow] using this
theorem bl_fo1 : ∀ (es : List En) (zs : List (Fo × Str)) (c : Fo), opn1 (zs.map (·.2)) es = some [] → ∃ F : Fo, F.erow = bak zs c ++ es
  | [], [], c, _ => ⟨c, by simp [bak]⟩
  | [], z :: zs, c, h => by cases h
  | (true, n) :: es, zs, c, h => by
    obtain ⟨F, e⟩ := bl_fo1 es ((c, n) :: zs) .nil h
    exact ⟨F, by rw [e]; simp [bak, Fo.erow]⟩
  | (false, n) :: es, [], c, h => by cases h
  | (false, n) :: es, (l, m) :: zs, c, h => by
    have h' : (if m = n then opn1 (zs.map (·.2)) es else none) = some [] := h
    by_cases e : m = n
    · rw [if_pos e] at h'
      subst e
      obtain ⟨F, e⟩ := bl_fo1 es zs (l.app (.cons m c .nil)) h'
      exact ⟨F, by rw [e, bak_app]; simp [bak, Fo.erow]⟩
    · rw [if_neg e] at h'; cases h'
/-- a balanced list of ends is the row of a wood -/
theorem bl_fo {es : List En} (h : Bl es) : ∃ F : Fo, F.erow = es := by
  obtain ⟨F, e⟩ := bl_fo1 es [] .nil h
  exact ⟨F, by simpa [bak, Fo.erow] using e⟩
/-- in a balanced list both ends of a name stand, or none -/
theorem bl_both {es : List En} (h : Bl es) {n : Str} (b c : Bool) (hm : (b, n) ∈ es) : (c, n) ∈ es := by
  obtain ⟨F, rfl⟩ := bl_fo h
  exact nm_erow c (erow_nm F _ hm)
/-- the block of a node -/
def blkE (n : Str) (m : List En) : List En := (true, n) :: (m ++ [(false, n)])
theorem bl_blk {n : Str} {m : List En} (h : Bl m) : Bl (blkE n m) := h.wrap n
theorem split_at : ∀ {f : Fo} {n : Str}, n ∈ f.nm → ∃ x m y, f.erow = x ++ (blkE n m ++ y) ∧ Bl m
  | .cons k ks r, n, h => by
    rcases List.mem_cons.mp (show n ∈ k :: (ks.nm ++ r.nm) from h) with e | h
    · subst e
      exact ⟨[], ks.erow, r.erow, by simp [Fo.erow, blkE], bl_row ks⟩
    · rcases List.mem_append.mp h with h | h
      · obtain ⟨x, m, y, e, hm⟩ := split_at h
        exact ⟨(true, k) :: x, m, y ++ (false, k) :: r.erow, by simp [Fo.erow, e], hm⟩
      · obtain ⟨x, m, y, e, hm⟩ := split_at h
        exact ⟨(true, k) :: (ks.erow ++ (false, k) :: x), m, y, by simp [Fo.erow, e], hm⟩
/-! ### the places in the row's texts -/
theorem idx_map {α β : Type} [BEq α] [LawfulBEq α] [BEq β] [LawfulBEq β] {f : α → β} (hf : ∀ a b, f a = f b → a = b) (x : α) : ∀ l : List α, (l.map f).idxOf (f x) = l.idxOf x
  | [] => rfl
  | y :: l => by
    rw [List.map_cons, List.idxOf_cons, List.idxOf_cons, idx_map hf x l]
    have e : (f y == f x) = (y == x) := by
      rw [Bool.eq_iff_iff, beq_iff_eq, beq_iff_eq]
      exact ⟨hf _ _, fun h => by rw [h]⟩
    rw [e]
theorem mem_map_inj {α β : Type} {f : α → β} (hf : ∀ a b, f a = f b → a = b) {x : α} {l : List α} : f x ∈ l.map f ↔ x ∈ l := by
  refine ⟨fun h => ?_, fun h => List.mem_map_of_mem (f := f) h⟩
  obtain ⟨y, hy, e⟩ := List.mem_map.mp h
  rw [← hf _ _ e]; exact hy
theorem row_idx (f : Fo) (b : Bool) (n : Str) : f.row.idxOf (en (b, n)) = f.erow.idxOf (b, n) := by
  rw [Fo.row_erow]; exact idx_map (fun _ _ => en_injQ) _ _
theorem row_mem {f : Fo} {b : Bool} {n : Str} : en (b, n) ∈ f.row ↔ n ∈ f.nm := by
  rw [Fo.row_erow, mem_map_inj (fun _ _ => en_injQ)]
  exact ⟨fun h => erow_nm f _ h, fun h => nm_erow b h⟩
theorem bg_mem {f : Fo} {n : Str} : bg n ∈ f.row ↔ n ∈ f.nm := row_mem
/-- where the block of a node stands in the row -/
structure At (f : Fo) (n : Str) (x m y : List En) : Prop where
  row : f.erow = x ++ (blkE n m ++ y)
  bal : Bl m
  outB : (true, n) ∉ x
  outE : (false, n) ∉ x
  inB : (true, n) ∉ m
  inE : (false, n) ∉ m
  behB : (true, n) ∉ y
  behE : (false, n) ∉ y
  nd : (x ++ (blkE n m ++ y)).Nodup
theorem at_of {f : Fo} {n : Str} (nd : f.nm.Nodup) (h : n ∈ f.nm) : ∃ x m y, At f n x m y := by
  obtain ⟨x, m, y, e, hm⟩ := split_at h
  have hn := erow_nodup nd
  rw [e] at hn
  have hn0 := hn
  simp only [blkE, List.cons_append, List.append_assoc, List.nil_append, List.nodup_append, List.nodup_cons, List.mem_append, List.mem_cons, not_or] at hn
  obtain ⟨_, ⟨⟨a1, a2, a3⟩, b1, ⟨c1, _⟩, d⟩, g⟩ := hn
  refine ⟨x, m, y, e, hm, fun z => g _ z _ (.inl rfl) rfl, fun z => g _ z _ (.inr (.inr (.inl rfl))) rfl, a1, fun z => d _ z _ (.inl rfl) rfl, a3, c1, hn0⟩
section
variable {f : Fo} {n : Str} {x m y : List En}
theorem At.ib (h : At f n x m y) : f.row.idxOf (bg n) = x.length := by
  unfold bg
  rw [row_idx, h.row, List.idxOf_append, if_neg h.outB]
  simp [blkE]
theorem At.ie (h : At f n x m y) : f.row.idxOf (ed n) = x.length + 1 + m.length := by
  unfold ed
  rw [row_idx, h.row, List.idxOf_append, if_neg h.outE]
  have e1 : ((true, n) == (false, n)) = false := by simp
  show ((true, n) :: (m ++ [(false, n)]) ++ y).idxOf (false, n) + x.length = _
  rw [List.cons_append, List.idxOf_cons, e1]
  show ((m ++ [(false, n)] ++ y).idxOf (false, n) + 1) + x.length = _
  rw [List.append_assoc, List.idxOf_append, if_neg h.inE]
  simp
  omega
theorem At.len (h : At f n x m y) : f.row.length = x.length + (m.length + 2) + y.length := by
  rw [Fo.row_erow, h.row]
  simp [blkE]; omega
theorem At.rest (h : At f n x m y) : Bl (x ++ y) := by
  have := bl_row f
  rw [h.row] at this
  exact (bl_blk h.bal).ins.mp this
theorem At.mem (h : At f n x m y) : n ∈ f.nm := by
  refine erow_nm f (true, n) ?_
  rw [h.row]; simp [blkE]
end
end Tw
set_option Elab.async false
set_option linter.all false
set_option maxRecDepth 100000
set_option maxHeartbeats 4000000
/-! what each deed makes of a row -/
namespace Tw
open PySem PySem.Spec PyProof.Rows L2
/-- the deeds' words -/
def words13 : List Str := formsL0
where formsL0 : List Str := ["first", "last", "ahead", "behind", "front", "back", "swap", "turn", "lift", "cut", "pour", "wrap", "put"]
/-- a block put into the rest at a place -/
def insE (r : List En) (p : Nat) (b : List En) : List En := r.take p ++ (b ++ r.drop p)
theorem insE_perm (r b : List En) (p : Nat) : (insE r p b).Perm (b ++ r) := by
  unfold insE
  have h1 : (r.take p ++ (b ++ r.drop p)).Perm (b ++ (r.take p ++ r.drop p)) := by
    rw [← List.append_assoc, ← List.append_assoc]
    exact List.Perm.append_right _ List.perm_append_comm
  rwa [List.take_append_drop] at h1
theorem insE_map (r b : List En) (p : Nat) : (insE r p b).map en = (r.map en).take p ++ (b.map en ++ (r.map en).drop p) := by
  unfold insE
  simp only [List.map_append, List.map_take, List.map_drop]
/-- a stretch of a list, put elsewhere -/
theorem movedL_eq {α : Type} {x b y : List α} {g : Nat} (h : g ≤ x.length ∨ x.length + b.length ≤ g) :
    movedL (x ++ (b ++ y)) x.length (x.length + b.length) g = (x ++ y).take (if g ≤ x.length then g else g - b.length) ++ (b ++ (x ++ y).drop (if g ≤ x.length then g else g - b.length)) := by
  unfold movedL
  have d1 : (x ++ (b ++ y)).drop x.length = b ++ y := List.drop_left
  have d2 : (x ++ (b ++ y)).drop (x.length + b.length) = y := by rw [← List.append_assoc, ← List.length_append]; exact List.drop_left
  have t1 : (x ++ (b ++ y)).take x.length = x := List.take_left
  have tb : (b ++ y).take (x.length + b.length - x.length) = b := by rw [Nat.add_sub_cancel_left]; exact List.take_left
  by_cases hg : g ≤ x.length
  · rw [if_pos hg, if_pos hg, d1, d2, tb]
    have a1 : (x ++ (b ++ y)).take g = x.take g := List.take_append_of_le_length hg
    have a2 : (x ++ (b ++ y)).drop g = x.drop g ++ (b ++ y) := List.drop_append_of_le_length hg
    have a3 : (x ++ y).take g = x.take g := List.take_append_of_le_length hg
    have a4 : (x ++ y).drop g = x.drop g ++ y := List.drop_append_of_le_length hg
    have a5 : (x.drop g ++ (b ++ y)).take (x.length - g) = x.drop g := by
      have e : x.length - g = (x.drop g).length := by rw [List.length_drop]
      rw [e]; exact List.take_left
    rw [a1, a2, a3, a4, a5]
    simp only [List.append_assoc]
  · rw [if_neg hg, if_neg hg, d1, d2, tb, t1]
    have hg2 : x.length + b.length ≤ g := h.resolve_left hg
    have e1 : (x ++ y).take (g - b.length) = x ++ y.take (g - (x.length + b.length)) := by
      rw [List.take_append, List.take_of_length_le (by omega)]
      congr 2; omega
    have e2 : (x ++ y).drop (g - b.length) = y.drop (g - (x.length + b.length)) := by
      rw [List.drop_append, List.drop_of_length_le (by omega), List.nil_append]
      congr 1; omega
    have e3 : (x ++ (b ++ y)).drop g = y.drop (g - (x.length + b.length)) := by
      rw [← List.append_assoc, List.drop_append, List.drop_of_length_le (by rw [List.length_append]; omega), List.nil_append, List.length_append]
    rw [e1, e2, e3]
    simp only [List.append_assoc]
/-- where a move puts the block, in the rest -/
def goalE (w b : Str) (r : List En) : Nat :=
  if w = "front" then 0 else if w = "back" then r.length else if w = "first" then r.idxOf (true, b) + 1 else if w = "last" then r.idxOf (false, b) else if w = "ahead" then r.idxOf (true, b) else r.idxOf (false, b) + 1
def moves6 : List Str := ["first", "last", "ahead", "behind", "front", "back"]
section
variable {f : Fo} {a b : Str} {x m y : List En}
theorem At.nmem (h : At f a x m y) {c : Bool} (hb : b ∈ f.nm) (ne : b ≠ a) (hm : (c, b) ∉ m) : (c, b) ∈ x ∨ ((c, b) ∉ x ∧ (c, b) ∈ y) := by
  have h1 := nm_erow c hb
  rw [h.row] at h1
  by_cases hx : (c, b) ∈ x
  · exact .inl hx
  · refine .inr ⟨hx, ?_⟩
    rcases List.mem_append.mp h1 with z | z
    · exact absurd z hx
    · rcases List.mem_append.mp z with z | z
      · simp only [blkE, List.mem_cons, List.mem_append, List.not_mem_nil, or_false] at z
        rcases z with z | z | z
        · exact absurd (congrArg Prod.snd z) ne
        · exact absurd z hm
        · exact absurd (congrArg Prod.snd z) ne
      · exact z
theorem blk_len (a : Str) (m : List En) : (blkE a m).length = m.length + 2 := by simp [blkE]
theorem notin_blk {c : Bool} (ne : b ≠ a) (hm : (c, b) ∉ m) : (c, b) ∉ blkE a m := fun z => by
  simp only [blkE, List.mem_cons, List.mem_append, List.not_mem_nil, or_false] at z
  rcases z with z | z | z
  · exact absurd (congrArg Prod.snd z) ne
  · exact absurd z hm
  · exact absurd (congrArg Prod.snd z) ne
/-- the place of another end in the row and in the rest -/
theorem At.place (h : At f a x m y) {c : Bool} (hb : b ∈ f.nm) (ne : b ≠ a) (hm : (c, b) ∉ m) :
    (f.row.idxOf (en (c, b)) < x.length ∧ (x ++ y).idxOf (c, b) = f.row.idxOf (en (c, b))) ∨ (x.length + (m.length + 2) ≤ f.row.idxOf (en (c, b)) ∧ (x ++ y).idxOf (c, b) = f.row.idxOf (en (c, b)) - (m.length + 2)) := by
  rw [row_idx, h.row]
  rcases h.nmem hb ne hm with hx | ⟨hx, hy⟩
  · refine .inl ?_
    rw [List.idxOf_append, if_pos hx, List.idxOf_append, if_pos hx]
    exact ⟨List.idxOf_lt_length_iff.mpr hx, rfl⟩
  · refine .inr ?_
    have e1 : (x ++ (blkE a m ++ y)).idxOf (c, b) = y.idxOf (c, b) + (m.length + 2) + x.length := by
      rw [List.idxOf_append, if_neg hx, List.idxOf_append, if_neg (notin_blk ne hm), blk_len]
    have e2 : (x ++ y).idxOf (c, b) = y.idxOf (c, b) + x.length := by rw [List.idxOf_append, if_neg hx]
    rw [e1, e2]
    omega
theorem At.around (h : At f a x m y) (hb : b ∈ f.nm) : aroundL f.row a b = true ↔ b = a ∨ (true, b) ∈ m := by
  unfold aroundL
  rw [Bool.and_eq_true, decide_eq_true_eq, decide_eq_true_eq, h.ib, h.ie]
  constructor
  · rintro ⟨h1, h2⟩
    by_cases ne : b = a
    · exact .inl ne
    · by_cases hm : (true, b) ∈ m
      · exact .inr hm
      · have hp := h.place (c := true) hb ne hm
        have e : f.row.idxOf (bg b) = f.row.idxOf (en (true, b)) := rfl
        rw [e] at h1 h2
        omega
  · intro h1
    by_cases ne : b = a
    · subst ne
      rw [h.ib]; omega
    · have hm := h1.resolve_left ne
      have hxn : (true, b) ∉ x := fun z => (List.nodup_append.mp h.nd).2.2 _ z _ (List.mem_append_left _ (by simp [blkE, hm])) rfl
      have e : f.row.idxOf (bg b) = x.length + 1 + m.idxOf (true, b) := by
        unfold bg
        rw [row_idx, h.row, List.idxOf_append, if_neg hxn]
        show ((true, a) :: (m ++ [(false, a)]) ++ y).idxOf (true, b) + x.length = _
        have e1 : ((true, a) == (true, b)) = false := by simp [Ne.symm ne]
        rw [List.cons_append, List.idxOf_cons, e1, List.append_assoc]
        show ((m ++ ([(false, a)] ++ y)).idxOf (true, b) + 1) + x.length = _
        rw [List.idxOf_append, if_pos hm]
        omega
      have := List.idxOf_lt_length_iff.mpr hm
      omega

/-! ### the row behind each deed -/
theorem row_map (h : At f a x m y) : f.row = x.map en ++ ((blkE a m).map en ++ y.map en) := by
  rw [Fo.row_erow, h.row, List.map_append, List.map_append]
theorem At.end_ (h : At f a x m y) : f.row.idxOf (ed a) + 1 = (x.map en).length + ((blkE a m).map en).length := by
  rw [h.ie, List.length_map, List.length_map, blk_len]; omega
theorem At.moved (h : At f a x m y) {w : Str} (hw : w ∈ moves6) (ho : w ≠ "front" → w ≠ "back" → b ∈ f.nm ∧ b ≠ a ∧ (true, b) ∉ m ∧ (false, b) ∉ m) :
    movedL f.row (f.row.idxOf (bg a)) (f.row.idxOf (ed a) + 1) (if w = "front" then 0 else if w = "back" then f.row.length else goalL f.row w b) = (insE (x ++ y) (goalE w b (x ++ y)) (blkE a m)).map en := by
  have hx : f.row.idxOf (bg a) = (x.map en).length := by rw [h.ib, List.length_map]
  rw [hx, h.end_]
  have key : ∀ g p : Nat, (g ≤ x.length ∧ p = g) ∨ (x.length + (m.length + 2) ≤ g ∧ p = g - (m.length + 2)) → movedL f.row (x.map en).length ((x.map en).length + ((blkE a m).map en).length) g = (insE (x ++ y) p (blkE a m)).map en := by
    intro g p hg
    rw [row_map h, movedL_eq (by rw [List.length_map, List.length_map, blk_len]; omega), insE_map, List.map_append]
    have hp : (if g ≤ (x.map en).length then g else g - ((blkE a m).map en).length) = p := by
      rw [List.length_map, List.length_map, blk_len]
      split <;> omega
    rw [hp]
  refine key _ _ ?_
  unfold goalE
  by_cases c1 : w = "front"
  · rw [if_pos c1, if_pos c1]; exact .inl ⟨Nat.zero_le _, rfl⟩
  rw [if_neg c1, if_neg c1]
  by_cases c2 : w = "back"
  · rw [if_pos c2, if_pos c2, h.len, List.length_append]; right; omega
  rw [if_neg c2, if_neg c2]
  obtain ⟨hb, ne, m1, m2⟩ := ho c1 c2
  have p1 := h.place (c := true) hb ne m1
  have p2 := h.place (c := false) hb ne m2
  unfold goalL
  have e1 : f.row.idxOf (bg b) = f.row.idxOf (en (true, b)) := rfl
  have e2 : f.row.idxOf (ed b) = f.row.idxOf (en (false, b)) := rfl
  rw [e1, e2]
  by_cases c3 : w = "first"
  · rw [if_pos c3, if_pos c3]; omega
  rw [if_neg c3, if_neg c3]
  by_cases c4 : w = "last"
  · rw [if_pos c4, if_pos c4]; omega
  rw [if_neg c4, if_neg c4]
  by_cases c5 : w = "ahead"
  · rw [if_pos c5, if_pos c5]; omega
  rw [if_neg c5, if_neg c5]
  omega
/-- two blocks, the one behind the other -/
theorem At.two (h : At f a x m y) {x' m' y' : List En} (g : At f b x' m' y') (hl : f.row.idxOf (bg a) < f.row.idxOf (bg b)) (hm : (true, b) ∉ m) : ∃ z, x' = x ++ (blkE a m ++ z) ∧ y = z ++ (blkE b m' ++ y') := by
  have hb := g.mem
  have ne : b ≠ a := fun e => by rw [e] at hl; omega
  have p1 := h.place (c := true) hb ne hm
  have e2 : f.row.idxOf (bg b) = f.row.idxOf (en (true, b)) := rfl
  have e3 := g.ib
  have e4 := h.ib
  have e5 := g.row
  rw [h.row, ← List.append_assoc] at e5
  have hlen : (x ++ blkE a m).length ≤ x'.length := by rw [List.length_append, blk_len]; omega
  rcases List.append_eq_append_iff.mp e5 with ⟨z, z1, z2⟩ | ⟨z, z1, z2⟩
  · exact ⟨z, by rw [z1, List.append_assoc], z2⟩
  · have : z = [] := by
      have := congrArg List.length z1
      simp only [List.length_append] at this hlen
      exact List.length_eq_zero_iff.mp (by omega)
    subst this
    exact ⟨[], by rw [List.append_nil] at z1; rw [← z1, List.append_nil], by rw [List.nil_append] at z2 ⊢; exact z2.symm⟩
end
/-! ### two names exchanged -/
end Tw
set_option Elab.async false
set_option linter.all false
set_option maxRecDepth 100000
set_option maxHeartbeats 4000000
/-! a deed that does not stop leads from the row of a wood to the row of a wood -/
namespace Tw
open PySem PySem.Spec PyProof.Rows L2
/-- the word with which a deed stops on a row -/
def stopL (zs : List Str) (w a b : Str) : Option Str :=
  if w ∈ ones then (if bg a ∈ zs then none else some "gone")
  else if w = "wrap" then (if bg a ∉ zs then some "gone" else if bg b ∈ zs then some "taken" else none)
  else if w = "put" then (if bg b ∉ zs then some "gone" else if bg a ∈ zs then some "taken" else none)
  else if bg a ∉ zs ∨ bg b ∉ zs then some "gone"
  else if w = "swap" then (if aroundL zs a b || aroundL zs b a then some "inside" else none)
  else if w = "turn" then none
  else if aroundL zs a b then some "inside" else none
theorem pls_perm {a b : List En} (h : a.Perm b) : (pls a).Perm (pls b) := (h.filter _).map _
/-- what a deed may bring, what it leads to -/
structure Step (f : Fo) (w a b : Str) (g : Fo) : Prop where
  row : g.row = behindL f.row w a b
  nd : g.nm.Nodup
  nms : ∀ z ∈ g.nm, z ∈ f.nm ∨ (w = "wrap" ∧ z = b) ∨ (w = "put" ∧ z = a)
  len : g.nm.length ≤ f.nm.length + 1
theorem ones_iff {w : Str} : w ∈ ones ↔ w = "front" ∨ w = "back" ∨ w = "lift" ∨ w = "cut" := by simp [ones]
theorem perm_block {x bk y : List En} : (x ++ (bk ++ y)).Perm (bk ++ (x ++ y)) := by
  rw [← List.append_assoc, ← List.append_assoc]
  exact List.Perm.append_right _ List.perm_append_comm
section
variable {f : Fo} {a b : Str} {x m y : List En}
/-- b is not in a -/
theorem At.out_of (h : At f a x m y) (hb : b ∈ f.nm) (hr : aroundL f.row a b = false) : b ≠ a ∧ (true, b) ∉ m ∧ (false, b) ∉ m := by
  have h1 : ¬ (b = a ∨ (true, b) ∈ m) := fun z => by rw [(h.around hb).mpr z] at hr; cases hr
  have h2 : (true, b) ∉ m := fun z => h1 (.inr z)
  exact ⟨fun z => h1 (.inl z), h2, fun z => h2 (bl_both h.bal false true z)⟩
theorem At.perm (h : At f a x m y) : f.erow.Perm (blkE a m ++ (x ++ y)) := by rw [h.row]; exact perm_block
end
end Tw
set_option Elab.async false
set_option linter.all false
set_option maxRecDepth 100000
set_option maxHeartbeats 4000000
/-! list(zip(text, tuple)) -/
namespace Tw
open PySem PySem.Spec PyProof.Rows L2
section
variable {prog : Program} {w : World} {A : Around} {E : Value → Shared → Prop} {s : Shared} {z TI TO T i1 i2 : Addr} {fp1 fp2 : List Addr} {n1 n2 i : Nat} {P1 P2 : Nat → Value → Prop} {St1 St2 : Nat → Heap → Prop} {f : Bool} {oT : Obj}
end
/-- pairs of a sign and a value are laid one by one -/
inductive LayZ : Hp → List (Nat × V) → List Addr → Hp → Prop where
  | nil {H : Hp} : LayZ H [] [] H
  | cons {H H' : Hp} {T : Addr} {c : Nat} {y : V} {l : List (Nat × V)} {Ts : List Addr} : H T = none → LayZ (upd H T (.tup [.str ⟨#[c]⟩, y])) l Ts H' → LayZ H ((c, y) :: l) (T :: Ts) H'
theorem LayZ.len {H H' : Hp} {l : List (Nat × V)} {Ts : List Addr} (h : LayZ H l Ts H') : Ts.length = l.length := by
  induction h with
  | nil => rfl
  | cons _ _ ih => simp [ih]
section
variable {X : Cx} {pins : List (Addr × Obj)} {σ : L2.St}
end
/-- list(zip(text, tuple)) -/
def tListZipS (K : PySem.W.Frag) (ta : TA) : TE := fun σ H Q => ta σ H fun vs H1 => ∃ x b ys, vs = [.str x, .ref b] ∧ SqT K H1 b ys ∧ ys.length ≤ sizeLine ∧ ∀ Ts H2 D, LayZ H1 (x.cps.toList.zip ys) Ts H2 → H2 D = none → Q (.ref D) (upd H2 D (.lst (Ts.map V.ref)))
section
variable {X : Cx} {e e2 : Expr} {ta : TA} {p p2 pos pos2 : Pos}
end
end Tw
set_option Elab.async false
set_option linter.all false
set_option maxRecDepth 100000
set_option maxHeartbeats 4000000
/-! classes of errors over any base (ValueError, LookupError) with an __init__ that stores: made where nothing is handled -/
namespace Tw
open PySem PySem.Spec PyProof.Rows L2
/-- own classes, and then the base's row -/
def owns (tl : List Value) : List Value → Bool
  | .ref _ :: rest => owns tl rest
  | rest => rest == tl
/-- what a base is good for -/
structure BaseOk (B newId initId : String) (tl : List Value) : Prop where
  fx : ExcBaseFacts B newId initId tl
  pas : ∀ self, PySem.refuseLoop self "__setattr__" tl = pure ()
  obj : tl.contains (.type "object") = true
  ty : ∃ n r, tl = .type n :: r
theorem owns_split (tl : List Value) : ∀ l : List Value, owns tl l = true → (∃ c r, l = .ref c :: r ∧ owns tl r = true) ∨ l = tl
  | .ref c :: r, e => .inl ⟨c, r, rfl, e⟩
  | [], e | .none :: _, e | .ellipsis :: _, e | .notImplemented :: _, e | .bool _ :: _, e | .int _ _ :: _, e | .float _ _ :: _, e | .str _ _ :: _, e | .bytes _ _ :: _, e | .type _ :: _, e | .builtin _ :: _, e => .inr (beq_iff_eq.mp e)
section
variable {B newId initId : String} {tl : List Value}
theorem owns_pass (b : BaseOk B newId initId tl) (me : Value) {l : List Value} (e : owns tl l = true) : PySem.refuseLoop me "__setattr__" l = pure () := by
  induction l with
  | nil =>
    rcases owns_split tl _ e with ⟨c, r, z, _⟩ | z
    · cases z
    · rw [z]; exact b.pas me
  | cons x l ih =>
    rcases owns_split tl _ e with ⟨c, r, z, h⟩ | z
    · cases z
      rw [PySem.refuseLoop_ref]
      exact ih h
    · rw [z]; exact b.pas me
theorem owns_has (b : BaseOk B newId initId tl) (T : String) {l : List Value} (e : owns tl l = true) : l.contains (.type T) = tl.contains (.type T) := by
  induction l with
  | nil =>
    rcases owns_split tl _ e with ⟨c, r, z, _⟩ | z
    · cases z
    · rw [z]
  | cons x l ih =>
    rcases owns_split tl _ e with ⟨c, r, z, h⟩ | z
    · cases z
      rw [List.contains_cons, ih h]
      rfl
    · rw [z]
theorem owns_some (b : BaseOk B newId initId tl) {l : List Value} (e : owns tl l = true) : l.isEmpty = false := by
  cases l with
  | cons _ _ => rfl
  | nil =>
    rcases owns_split tl _ e with ⟨c, r, z, _⟩ | z
    · cases z
    · obtain ⟨n, r, h⟩ := b.ty
      rw [h] at z; cases z
end
theorem baseVE : BaseOk "ValueError" "ValueError.__new__" "ValueError.__init__" [.type "ValueError", .type "Exception", .type "BaseException", .type "object"] := ⟨F.excBase_ValueError, F.store_ValueError.passes, by decide +kernel, _, _, rfl⟩
theorem baseLE : BaseOk "LookupError" "LookupError.__new__" "LookupError.__init__" [.type "LookupError", .type "Exception", .type "BaseException", .type "object"] := ⟨F.excBase_LookupError, F.store_LookupError.passes, by decide +kernel, _, _, rfl⟩
/-- what the written part says of such a class -/
structure OexG (K : PySem.W.Frag) (C : Addr) (newId : String) (tl : List Value) : Prop where
  cls : ∃ nm qn N bs bm sn sub ab col dd k0 k1 k2 k3 k5, K.lookup C = some (excClassObj nm qn C N bs bm true sn sub ab col dd k0 k1 k2 k3 k5 newId) ∧ owns tl bm = true
  sa : PySem.W.findIn K (.ref C) "__setattr__" = some (some (.builtin "object.__setattr__"))
  exC : PySem.W.subIn K (.ref C) (.type "BaseException") = some true
  tyC : PySem.W.typeIn K (.ref C) = some (.type "type")
  kC : PySem.W.keepIn K (.ref C) = true
end Tw
namespace TwSt
open PySem PySem.W PySem.Calls PyProof.Rows PySem.HandSPX Builtin Builtin.ObjectAttr
section
variable {P : Program} {wd : World} {Ar : Around} {Rs : Result → Shared → Prop} {h1 : Heap} {gs : Array GenState} {dr : Drawn} {n1 : Nat} {osx : OsState} {B newId initId : String} {tl : List Value}
/-- the first field of an error, as object.__setattr__ stores it -/
theorem put_new {K : W.Frag} {nm : Str} {tkn : Tok} {val : Value} {ob C : Addr} {flds : Array Value} {cdat : ClassData} (b : Tw.BaseOk B newId initId tl) (KX : K.In h1) (ho : h1.get? ob = some { cls := .ref C, data := .fields flds }) (hcl : W.clsIn K C = some cdat) (hmr : Tw.owns tl cdat.mro = true)
    (hdd : cdat.hasDict = true) (hna : W.findIn K (.ref C) nm = some none)
    (goal : ∀ h2 tkn' dx, (∀ q o, q ≠ ob → h1.get? q = some o → h2.get? q = some o) → h1.objs.size ≤ dx → dx ≠ ob → h2.get? ob = some { cls := .ref C, dict := some dx, data := .fields flds } → h2.Ns1 dx (fun y => if y = nm then some val else none) → Rs (.ok (.ret .none)) ⟨h2, gs, dr, tkn', osx⟩) :
    codeAny (model P wd) Ar (.call (.builtin "object.__setattr__") ⟨[.ref ob, .str nm tkn, val], []⟩) Rs ⟨h1, gs, dr, n1, osx⟩ := by
  have inst : W.InstAt h1 ob { cls := .ref C, data := .fields flds } C none := ⟨ho, rfl, rfl, trivial⟩
  have hobj : cdat.mro.contains (.type "object") = true := (Tw.owns_has b "object" hmr).trans b.obj
  have hlt : ob ≠ h1.objs.size := Nat.ne_of_lt (Heap.lt_size ho)
  have isob : W.Looks (model P wd) h1 (isInstance (.ref ob) (.type "object")) true := inst.type.andThen (W.looks_mroIn KX (by unfold W.mroIn; rw [hcl, Option.bind_some, if_neg (by rw [Tw.owns_some b hmr]; decide), hobj]))
  refine codeAny_call_builtin F.store_object.slot.plain F.store_object.entry (@W.check_slot (model P wd) _ _ ⟨h1, gs, dr, n1, osx⟩ "object.__setattr__" "object" "__setattr__" (.ref ob) [.str nm tkn, val] [] _ F.store_object.kind F.store_object.split isob (F.store_object.args (.ref ob) (.str nm tkn) val) ?_)
  have lm : W.Looks (model P wd) h1 (mroOf (.ref C)) cdat.mro := (W.looks_clsIn KX hcl).andThen .now
  have l3 : W.Looks (model P wd) h1 (storeTaker? none) none := .now
  have lc : W.Looks (model P wd) h1 (classData C) cdat := W.looks_clsIn KX hcl
  rw [W.osa_eq, refuse_eq]
  refine wpAny_bind (wpAny_bind (inst.type.at (wpAny_bind (lm.at ?_))))
  rw [Tw.owns_pass b _ hmr]
  refine wpAny_pure (wpAny_bind (inst.type.at (wpAny_bind ((W.looks_findIn KX hna).at (wpAny_bind (l3.at ?_))))))
  show wpAny _ _ (storeInOwnDict (.ref ob) (.ref C) (.str nm tkn) nm val false) _ _ _
  obtain ⟨cn, cb, cm, cns, cq, ch, csn, csb, cab, ccol, cdel⟩ := cdat
  dsimp only at hdd
  subst hdd
  unfold storeInOwnDict ownDictForStores
  repeat (first | with_reducible refine HandSPX.store_in_new ?_ ?_ | with_reducible refine wpAny_loadPart_at ho ?_ | with_reducible refine lc.at ?_ | wp_step)
  · exact ⟨_, #[], _, (Heap.get?_update_ne _ _ _ _ hlt.symm).trans (Heap.get?_push_at rfl rfl), rfl, fun e he => absurd he (by simp), fun _ => rfl⟩
  · intro h2 tkn' hn hsb
    have hx2 : (h1.push { cls := .type "dict", data := .dict #[] }).get? ob = some { cls := .ref C, data := .fields flds } := Heap.get?_push_of_some _ ho
    refine goal h2 tkn' h1.objs.size (fun q o hq hqo => ?_) (Nat.le_refl _) hlt.symm ?_ hn
    · exact (hsb.2 q (Nat.ne_of_lt (Heap.lt_size hqo))).trans ((Heap.get?_update_ne _ _ _ _ hq).trans (Heap.get?_push_of_some _ hqo))
    · exact (hsb.2 ob hlt).trans (Heap.get?_update_self _ hx2 rfl)
/-- a further field -/
theorem put_more {K : W.Frag} {nm : Str} {tkn : Tok} {val : Value} {ob C dx : Addr} {flds : Array Value} {cdat : ClassData} {m0 : Str → Option Value} {nl : List Str} (b : Tw.BaseOk B newId initId tl) (KX : K.In h1) (ho : h1.get? ob = some { cls := .ref C, dict := some dx, data := .fields flds }) (hns : h1.Ns1 dx m0)
    (hw : Within m0 nl) (hz : nl.length ≤ 1000) (hcl : W.clsIn K C = some cdat) (hmr : Tw.owns tl cdat.mro = true) (hdd : cdat.hasDict = true) (hna : W.findIn K (.ref C) nm = some none)
    (goal : ∀ h2 tkn', (∀ q o, q ≠ dx → h1.get? q = some o → h2.get? q = some o) → h2.Ns1 dx (fun y => if y = nm then some val else m0 y) → Rs (.ok (.ret .none)) ⟨h2, gs, dr, tkn', osx⟩) :
    codeAny (model P wd) Ar (.call (.builtin "object.__setattr__") ⟨[.ref ob, .str nm tkn, val], []⟩) Rs ⟨h1, gs, dr, n1, osx⟩ := by
  obtain ⟨oD, esD, epD, hoD, hdD, _⟩ := hns.count hw
  have inst : W.InstAt h1 ob { cls := .ref C, dict := some dx, data := .fields flds } C (some oD) := ⟨ho, rfl, rfl, hoD⟩
  have hobj : cdat.mro.contains (.type "object") = true := (Tw.owns_has b "object" hmr).trans b.obj
  have isob : W.Looks (model P wd) h1 (isInstance (.ref ob) (.type "object")) true := inst.type.andThen (W.looks_mroIn KX (by unfold W.mroIn; rw [hcl, Option.bind_some, if_neg (by rw [Tw.owns_some b hmr]; decide), hobj]))
  refine codeAny_call_builtin F.store_object.slot.plain F.store_object.entry (@W.check_slot (model P wd) _ _ ⟨h1, gs, dr, n1, osx⟩ "object.__setattr__" "object" "__setattr__" (.ref ob) [.str nm tkn, val] [] _ F.store_object.kind F.store_object.split isob (F.store_object.args (.ref ob) (.str nm tkn) val) ?_)
  have lm : W.Looks (model P wd) h1 (mroOf (.ref C)) cdat.mro := (W.looks_clsIn KX hcl).andThen .now
  have l3 : W.Looks (model P wd) h1 (storeTaker? none) none := .now
  have lc : W.Looks (model P wd) h1 (classData C) cdat := W.looks_clsIn KX hcl
  rw [W.osa_eq, refuse_eq]
  refine wpAny_bind (wpAny_bind (inst.type.at (wpAny_bind (lm.at ?_))))
  rw [Tw.owns_pass b _ hmr]
  refine wpAny_pure (wpAny_bind (inst.type.at (wpAny_bind ((W.looks_findIn KX hna).at (wpAny_bind (l3.at ?_))))))
  show wpAny _ _ (storeInOwnDict (.ref ob) (.ref C) (.str nm tkn) nm val false) _ _ _
  obtain ⟨cn, cb, cm, cns, cq, ch, csn, csb, cab, ccol, cdel⟩ := cdat
  dsimp only at hdd
  subst hdd
  unfold storeInOwnDict ownDictForStores
  repeat (first | with_reducible refine PySem.OEX.store_in_old hns hw hz ?_ | with_reducible refine wpAny_loadPart_at ho ?_ | with_reducible refine lc.at ?_ | wp_step)
  intro h2 tkn' hn hsb
  exact goal h2 tkn' (fun q o hq hqo => (hsb.2 q hq).trans hqo) hn
end
end TwSt
set_option Elab.async false
set_option linter.all false
set_option maxRecDepth 100000
set_option maxHeartbeats 4000000
/-! errors over any base: self.f = e, C(e, ..) -/
namespace Tw
open PySem PySem.Spec PyProof.Rows L2
section
variable {X : Cx} {pins : List (Addr × Obj)} {σ : L2.St} {H : Hp} {s : Shared} {a C dx : Addr} {f : Str} {y : V} {u : Value} {fs : List (Str × V)} {Q : Unit → Shared → Prop} {E : Value → Shared → Prop} {A : Around} {B newId initId : String} {tl : List Value}
theorem clsIn_of {K : PySem.W.Frag} {nm qn : Str} {N : Addr} {bs bm : List Value} {sn : List Str} {sub : List Value} {ab : Bool} {col : Option Bool} {dd : Option Addr} {k0 k1 k2 k3 k5 : Option Value} (h : K.lookup C = some (excClassObj nm qn C N bs bm true sn sub ab col dd k0 k1 k2 k3 k5 newId)) :
    ∃ cd, PySem.W.clsIn K C = some cd ∧ cd.mro = .ref C :: bm ∧ cd.hasDict = true := by
  refine ⟨{ name := nm, bases := bs, mro := .ref C :: bm, ns := N, qualname := qn, hasDict := true, slotNames := sn, subclasses := sub, abstract := ab, collection := col, hasDel := false }, ?_, rfl, rfl⟩
  unfold PySem.W.clsIn
  rw [h] <;> rfl
theorem osg_new (b : BaseOk B newId initId tl) (T : OexG X.K C newId tl) (I : Inv X pins σ H s) (e : H a = some (exo a C none)) (hno : PySem.W.findIn X.K (.ref C) f = some none) (ry : RelV y u)
    (h : ∀ dx s', H dx = none → dx ≠ a → Inv X pins σ (upd (upd H dx (exd dx [(f, y)])) a (exo a C (some dx))) s' → Q () s') : wpAny (model X.prog X.w) A (setAttr (.ref a) f u) Q E s := by
  obtain ⟨_, _, _, _, bm, _, _, _, _, _, _, _, _, _, _, hC, hbm⟩ := T.cls
  obtain ⟨cd, hcl, hmr, hdd⟩ := clsIn_of hC
  obtain ⟨t1, ho⟩ := exo_at I.hok e
  obtain ⟨hp, g, d, t, os⟩ := s
  refine PySem.W.set_plain I.kIn (ox := { cls := .ref C, dict := none, data := .fields #[.ref t1, .none, .none, .none, .bool false, .none] }) (od := none) ⟨ho, rfl, rfl, trivial⟩ T.sa ?_
  refine TwSt.put_new b I.kIn ho hcl (by rw [hmr]; exact hbm) hdd hno fun h2 tk dx kp dn dne hx hn => ?_
  have free : H dx = none := I.hok.fresh dn
  have far : ∀ {q : Addr} {o : Obj}, hp.get? q = some o → q ≠ dx := fun {q o} z => Nat.ne_of_lt (Nat.lt_of_lt_of_le (Heap.lt_size z) dn)
  have off : ∀ {q : Addr}, H q = none → q ≠ a := fun {q} n z => by rw [z, e] at n; cases n
  have U : Un X.fs [] H (upd (upd H dx (exd dx [(f, y)])) a (exo a C (some dx))) hp h2 := by
    refine ⟨fun q o z n _ _ => kp q o (off n) z, fun q o z n _ _ => ⟨o.slots, kp q o (off n) z⟩, fun q o z n _ => ?_, fun q o z _ => ?_, fun q xs z => ?_, fun q o v z => ?_, fun q ps z => ⟨#[], ?_⟩⟩
    · rw [upd_ne (off n), upd_ne (far z)]; exact n
    · by_cases hq : q = a
      · rw [hq]; exact ⟨_, hx⟩
      · exact ⟨o, kp q o hq z⟩
    · rw [upd_ne (at_ne e z exo_tup), upd_ne (ne_of_none z free)]; exact z
    · rw [upd_ne (at_ne e z exo_frz), upd_ne (ne_of_none z free)]; exact z
    · rw [upd_ne (at_ne e z exo_tbl), upd_ne (ne_of_none z free), z]; simp
  refine h dx _ free dne (I.un (t' := tk) U fun q o z => ?_)
  by_cases hq : q = a
  · subst hq
    rw [upd_same] at z; cases z
    exact exo_ok hx
  · rw [upd_ne hq] at z
    by_cases hd : q = dx
    · subst hd
      rw [upd_same] at z; cases z
      exact exd_ok hn (relO_put (fs := []) ry fun _ => True.intro)
    · rw [upd_ne hd] at z
      refine (I.hok q o z).stay (fun c v hc w => kp c v ?_ w) (fun c hc => ?_) fun c xs hc => ?_
      · rcases hc with hc | hc
        · rw [hc]; exact hq
        · exact at_ne e hc exo_own
      · rw [upd_ne (at_ne e hc exo_own), upd_ne (ne_of_none hc free)]; exact hc
      · rw [upd_ne (at_ne e hc exo_tup), upd_ne (ne_of_none hc free)]; exact hc
theorem osg_more (b : BaseOk B newId initId tl) (T : OexG X.K C newId tl) (I : Inv X pins σ H s) (e : H a = some (exo a C (some dx))) (ed : H dx = some (exd dx fs)) (hl : fs.length ≤ 900) (hno : PySem.W.findIn X.K (.ref C) f = some none) (ry : RelV y u)
    (h : ∀ s', Inv X pins σ (upd H dx (exd dx ((f, y) :: fs))) s' → Q () s') : wpAny (model X.prog X.w) A (setAttr (.ref a) f u) Q E s := by
  obtain ⟨_, _, _, _, bm, _, _, _, _, _, _, _, _, _, _, hC, hbm⟩ := T.cls
  obtain ⟨cd, hcl, hmr, hdd⟩ := clsIn_of hC
  obtain ⟨t1, ho⟩ := exo_at I.hok e
  obtain ⟨mA, hns, rel⟩ := exd_at I.hok ed
  obtain ⟨hp, g, d, t, os⟩ := s
  obtain ⟨oD, _, _, hoD, _, _⟩ := hns.count (within_of rel)
  refine PySem.W.set_plain I.kIn (ox := { cls := .ref C, dict := some dx, data := .fields #[.ref t1, .none, .none, .none, .bool false, .none] }) (od := some oD) ⟨ho, rfl, rfl, hoD⟩ T.sa ?_
  refine TwSt.put_more b I.kIn ho hns (within_of rel) (by rw [List.length_map]; omega) hcl (by rw [hmr]; exact hbm) hdd hno fun h2 tk kp hn => ?_
  refine h _ (I.write (t' := tk) (x := dx) (e := dx) (o := exd dx ((f, y) :: fs)) (by rw [ed]; exact True.intro) (.inl rfl) kp ?_ (exd_ok hn (relO_put ry rel)))
  obtain ⟨o, _, _, z, _⟩ := hn
  exact ⟨o, z⟩
end
/-- self.f = e -/
def tOsg (K : PySem.W.Frag) (newId : String) (tl : List Value) (f : Str) (to te : TE) : TS := fun D σ H => te σ H fun y H1 => to σ H1 fun x H2 => ∃ a C : Addr, x = .ref a ∧ OexG K C newId tl ∧ PySem.W.findIn K (.ref C) f = some none ∧
  ((H2 a = some (exo a C none) ∧ ∀ dx, H2 dx = none → dx ≠ a → D.nx σ (upd (upd H2 dx (exd dx [(f, y)])) a (exo a C (some dx)))) ∨
   ∃ (dx : Addr) (fs : List (Str × V)), H2 a = some (exo a C (some dx)) ∧ H2 dx = some (exd dx fs) ∧ fs.length ≤ 900 ∧ D.nx σ (upd H2 dx (exd dx ((f, y) :: fs))))
section
variable {X : Cx} {o e : Expr} {es : List Expr} {to te : TE} {ta : TA} {f : Str} {p p' pos : Pos} {B newId initId : String} {tl : List Value}
theorem ps_osg (b : BaseOk B newId initId tl) (ho : PE X o to) (he : PE X e te) (hs : swapsWith e (some (.Attribute o f p')) pos.line X.env = pure false := by rfl) : PS X (.Assign [.Attribute o f p'] e pos) (tOsg X.K newId tl f to te) := by
  refine ⟨fun pins s σ H D I h => ?_⟩
  refine plainObj_wpAny_Assign_Attribute (thn (he.run pins s σ H _ I h) ?_) hs
  rintro v s1 ⟨y, H1, I1, r1, q1⟩
  refine thn (ho.run pins s1 σ H1 _ I1 q1) ?_
  rintro u s2 ⟨x, H2, I2, r2, a, C, rfl, T, hno, q⟩
  obtain rfl : u = Value.ref a := r2
  rcases q with ⟨ea, q⟩ | ⟨dx, fs, ea, ed, hl, q⟩
  · exact osg_new b T I2 ea hno r1 fun dx s' n ne J => ⟨σ, _, J, q dx n ne⟩
  · exact osg_more b T I2 ea ed hl hno r1 fun s' J => ⟨σ, _, J, q⟩
/-- C(e, ..), C with an __init__ that keeps sp; its context is None -/
theorem pmk5_osg (b : BaseOk B newId initId tl) {CX : CXT} {x : Str} {C fI : Addr} {k : Nat} {fd : FuncData} {ps : List Str} {sp : Sp} (T : OexG X.K C newId tl) (iC : PySem.W.findIn X.K (.ref C) "__init__" = some (some (.ref fI))) (tI : PySem.W.typeIn X.K (.ref fI) = some (.type "function"))
    (F1 : FnOk X.prog X.w X.K X.mg X.base CX k fI fd ps sp) (hr : Room (k + 1) X.A) (hb : Binds X.K fd ps []) (hx : Passes CX X (fun _ _ _ => False)) (hg : Gl X x) (hm : X.mg x = some (.ref C)) (ha : PA X (e :: es) ta)
    (hdb : (x == ("__debug__" : Str)) = false := by decide) (he : starEach (e :: es) X.env = (false, eval e X.env) :: starEach es X.env := by rfl) (hpl : (backTo pos (starEach es X.env)).any (·.1) = false := by rfl) :
    L2H.PMk5 X (.Call (.Name x p) (e :: es) [] pos) (tMkO C sp [] ta) := by
  intro pins s σ H Q I h
  obtain ⟨_, _, _, _, bm, _, _, _, _, _, _, _, _, _, _, hC, hbm⟩ := T.cls
  refine wpAny_Call_Name_kw (ld_glob I hg hm ?_ hdb)
  refine PySem.W.callWith_K (h₀ := X.base) I.ok.mod.kin T.kC (thn (ha.run pos pins s σ H _ I h) ?_) he hpl
  rintro us s1 ⟨vs, H1, I1, r1, hz, q1⟩
  refine ⟨I1.kIn, ?_⟩
  show wpAny _ _ (call (.ref C) us) _ _ _
  obtain ⟨hp, g, dr, tk, os⟩ := s1
  have up : hp.objs.size ≤ hp.objs.size + 1 := Nat.le_succ _
  have hq := q1 (hp.objs.size + 1) (I1.hok.fresh up)
  rw [List.append_nil] at hq
  have kept : ∀ q o, hp.get? q = some o → ((hp.push (PySem.W.kdv_tup us)).push (PySem.HandSPX.excO C hp.objs.size)).get? q = some o := fun q o z => Heap.get?_push_of_some _ (Heap.get?_push_of_some _ z)
  have at1 : ((hp.push (PySem.W.kdv_tup us)).push (PySem.HandSPX.excO C hp.objs.size)).get? (hp.objs.size + 1) = some (PySem.HandSPX.excO C hp.objs.size) := by heap_get
  have I2 := I1.laid (t' := tk) (a := hp.objs.size + 1) (o := exo (hp.objs.size + 1) C none) (h' := (hp.push (PySem.W.kdv_tup us)).push (PySem.HandSPX.excO C hp.objs.size)) kept up (exo_ok at1)
  have rv2 : Vals (V.ref (hp.objs.size + 1) :: vs) (Value.ref (hp.objs.size + 1) :: us) := .cons rfl r1
  have many : (Value.ref (hp.objs.size + 1) :: us ++ []).length = ps.length := by rw [List.append_nil, ← rv2.length]; exact F1.len _ _ _ _ hq
  have few : us.length ≤ sizeLine := by rw [← Paired.length r1, sizeLine_eq]; omega
  have bd := hb _ (Value.ref (hp.objs.size + 1) :: us) I2.kIn many
  rw [List.append_nil] at bd
  refine wpAny_call (PySem.HandSPX.call_own b.fx (fun Y => owns_has b Y hbm) (I1.kIn _ _ hC) (PySem.W.looks_findIn I1.kIn iC) (fun self => PySem.W.bind_fn I1.kIn self tI) few (codeAny_mono
    (F1.run _ X.stack _ _ ⟨Value.ref (hp.objs.size + 1) :: us, []⟩ (Value.ref (hp.objs.size + 1) :: us) _ _ (fun _ _ _ => False) (hr.make C us []) (I2.env0.make C us []) bd rv2 hq) ?_))
  intro r s' back
  match r, back with
  | .error er, z => exact hx pins σ _ _ er s' I2 z
  | .ok .next, z => exact z.elim
  | .ok .brk, z => exact z.elim
  | .ok .cont, z => exact z.elim
  | .ok (.ret u), z =>
    obtain ⟨v, H2, os2, bare2, un2, hok2, rv, ev, d, fs, ea, ed, hd1, q2⟩ := z
    subst ev
    obtain ⟨h2, g2, d2, t2, os'⟩ := s'
    obtain ⟨t0, G, J, kG, ge, hoe, na⟩ := mk_end0 (d2 := d2) (t2 := t2) I1 up kept un2 hok2 os2 bare2 ea ed hd1
    refine ⟨rv, ⟨_, _, _, ⟨G, g2, d2, t2, os'⟩, _, .ref C, some d, rfl, J, kG, ge, hoe, ⟨rfl, rfl, fun vs hv => by cases hv; rfl⟩, rfl, rfl, na, rfl, bare2, raises_own T.exC T.tyC, q2⟩, fun q oe ws e1 e2 e3 => ?_⟩
    cases e1
    have e4 : h2.get? (hp.objs.size + 1) = some oe := e2
    rw [hoe] at e4
    cases e4
    cases e3
    show (4 : Nat) < 6
    decide
end
end Tw
set_option Elab.async false
set_option linter.all false
set_option maxRecDepth 100000
set_option maxHeartbeats 4000000
/-! errors of the text's own classes, whatever their base: with no field, with one, with two; the checks of their classes -/
namespace Tw
open PySem PySem.Spec PyProof.Rows L2
/-- le: the base is LookupError, otherwise ValueError -/
def bnm (le : Bool) : String := if le then "LookupError" else "ValueError"
def nid (le : Bool) : String := if le then "LookupError.__new__" else "ValueError.__new__"
def iid (le : Bool) : String := if le then "LookupError.__init__" else "ValueError.__init__"
def btl (le : Bool) : List Value := if le then [.type "LookupError", .type "Exception", .type "BaseException", .type "object"] else [.type "ValueError", .type "Exception", .type "BaseException", .type "object"]
theorem baseOf : ∀ le : Bool, BaseOk (bnm le) (nid le) (iid le) (btl le)
  | true => baseLE
  | false => baseVE
/-! ### checks -/
def shapeG (K : PySem.W.Frag) (C : Addr) (newId : String) (tl : List Value) : Bool := match K.lookup C with
  | some ⟨.type "type", _, .cls cd, sl⟩ => (match cd.mro, sl.toList with
    | .ref C' :: bm, [_, _, _, _, some (.builtin n), _] => C' == C && n == newId && !cd.hasDel && cd.hasDict && owns tl bm
    | _, _ => false)
  | _ => false
theorem shapeG_ok {K : PySem.W.Frag} {C : Addr} {newId : String} {tl : List Value} (q : shapeG K C newId tl = true) :
    ∃ nm qn N bs bm sn sub ab col dd k0 k1 k2 k3 k5, K.lookup C = some (excClassObj nm qn C N bs bm true sn sub ab col dd k0 k1 k2 k3 k5 newId) ∧ owns tl bm = true := by
  unfold shapeG at q
  split at q
  · rename_i dd cd sl ho
    split at q
    · rename_i C' bm k0 k1 k2 k3 n k5 hm hs
      simp only [Bool.and_eq_true, beq_iff_eq, Bool.not_eq_true'] at q
      obtain ⟨⟨⟨⟨rfl, rfl⟩, hdel⟩, hd⟩, ht⟩ := q
      obtain ⟨nm, bs, mro, ns, qn, hdc, sn, sub, ab, col, del⟩ := cd
      dsimp only at hm hdel hd
      subst hm hdel hd
      have hsl : sl = #[k0, k1, k2, k3, some (.builtin n), k5] := by
        obtain ⟨l⟩ := sl
        simp only at hs
        rw [hs]
      subst hsl
      exact ⟨nm, qn, ns, bs, bm, sn, sub, ab, col, dd, k0, k1, k2, k3, k5, ho, ht⟩
    · cases q
  · cases q
def oexGB (K : PySem.W.Frag) (C : Addr) (le : Bool) : Bool := shapeG K C (nid le) (btl le) && (decide (PySem.W.findIn K (.ref C) "__setattr__" = some (some (.builtin "object.__setattr__"))) && (decide (PySem.W.subIn K (.ref C) (.type "BaseException") = some true) && (decide (PySem.W.typeIn K (.ref C) = some (.type "type")) && PySem.W.keepIn K (.ref C))))
theorem oexGB_ok {K : PySem.W.Frag} {C : Addr} {le : Bool} (h : oexGB K C le = true) : OexG K C (nid le) (btl le) := by
  obtain ⟨h1, h⟩ := Bool.and_eq_true_iff.mp h
  obtain ⟨h2, h⟩ := Bool.and_eq_true_iff.mp h
  obtain ⟨h3, h⟩ := Bool.and_eq_true_iff.mp h
  obtain ⟨h4, h5⟩ := Bool.and_eq_true_iff.mp h
  exact ⟨shapeG_ok h1, of_decide_eq_true h2, of_decide_eq_true h3, of_decide_eq_true h4, h5⟩
inductive Ck where
  /-- a class whose __init__ stores these fields -/
  | has (x : Str) (fs : List Str) (le : Bool)
  /-- a class without an __init__, over ValueError -/
  | bare (x : Str)
  | kit (x y : Str) (b : Bool)
  | kitT (x : Str) (T : String) (b : Bool)
  | exm (x y : Str) (b : Bool)
def Ck.ok (K : PySem.W.Frag) : Ck → Bool
  | .has x fs le => oexGB K (He.ga K x) le && (excB K (He.ga K x) && (fs.all (fun f => decide (PySem.W.findIn K (.ref (He.ga K x)) f = some none)) && (decide (PySem.W.findIn K (.ref (He.ga K x)) "__init__" = some (some (.ref (He.ma K (He.ga K x) "__init__")))) && decide (PySem.W.typeIn K (.ref (He.ma K (He.ga K x) "__init__")) = some (.type "function")))))
  | .bare x => He.Fa.ok K (.exc x) && excB K (He.ga K x)
  | .kit x y b => decide (PySem.W.kitOne K (.ref (He.ga K x)) (.ref (He.ga K y)) = some b)
  | .kitT x T b => decide (PySem.W.kitOne K (.ref (He.ga K x)) (.type T) = some b)
  | .exm x y b => decide (PySem.W.exmOne K (.ref (He.ga K x)) (.ref (He.ga K y)) = some b)
def ckB (l : List Ck) (K : PySem.W.Frag) : Bool := l.all fun c => c.ok K
theorem ck_at {l : List Ck} {K : PySem.W.Frag} (h : ckB l K = true) (i : Nat) {c : Ck} (e : l[i]? = some c) : c.ok K = true := List.all_eq_true.mp h c (List.mem_of_getElem? e)
/-! ### __init__ -/
def sp_initG1 (K : PySem.W.Frag) (le : Bool) (C : Addr) (f : Str) : Sp := fun vs H Q _ => ∃ a v, vs = [.ref a, v] ∧ OexG K C (nid le) (btl le) ∧ PySem.W.findIn K (.ref C) f = some none ∧ H a = some (exo a C none) ∧ ∀ dx, H dx = none → dx ≠ a → Q .non (upd (upd H dx (exd dx [(f, v)])) a (exo a C (some dx)))
def t_initG1 (K : PySem.W.Frag) (le : Bool) (f : Str) : TS := tOsg K (nid le) (btl le) f (tVar 0) (tVar 1)
section
variable {K : PySem.W.Frag} {le : Bool} {C : Addr} {f g : Str}
theorem len_initG1 (vs : List V) (H : Hp) (Q : VK) (E : XK) (h : sp_initG1 K le C f vs H Q E) : vs.length = 2 := by
  obtain ⟨_, _, rfl, _⟩ := h; rfl
theorem pure_initG1 (vs : List V) (H : Hp) (Q : VK) (E : XK) (h : sp_initG1 K le C f vs H Q E) : t_initG1 K le f { nx := fun _ H' => Q .non H', rt := Q } (startN 2 vs) H := by
  obtain ⟨a, v, rfl, T, hf, ha, q⟩ := h
  exact ⟨v, rfl, .ref a, rfl, a, C, rfl, T, hf, .inl ⟨ha, q⟩⟩
theorem mkG1_of (T : OexG K C (nid le) (btl le)) (hf : PySem.W.findIn K (.ref C) f = some none) {te : TE} {σ : L2.St} {H : Hp} {Q : XK} (h : tMk1 C f te σ H Q) (m1 : Mono te) : tMkO C (sp_initG1 K le C f) [] (tCons te tNil) σ H Q := by
  refine m1 _ _ _ _ (fun v H1 q => ?_) h
  refine ⟨show 1 ≤ 1000 by decide, fun a ha => ⟨a, v, rfl, T, hf, upd_same, fun dx hdx hne => ⟨rfl, dx, [(f, v)], upd_same, ?_, ?_, ?_⟩⟩⟩
  · rw [upd_ne hne, upd_same]
  · rw [upd_ne hne] at hdx; exact hdx
  · rw [upd_ne hne] at hdx
    have e : upd (L2.del (upd (upd (upd H1 a (exo a C none)) dx (exd dx [(f, v)])) a (exo a C (some dx))) a) dx (.xd [(f, v)]) = upd H1 dx (.xd [(f, v)]) := by
      funext b
      by_cases hb : b = dx
      · rw [hb, upd_same, upd_same]
      · rw [upd_ne hb, upd_ne hb]
        by_cases hba : b = a
        · rw [hba, del_same, ha]
        · rw [del_ne hba, upd_ne hba, upd_ne hb, upd_ne hba]
    rw [e]
    exact q dx hdx
end
/-! ### what is known of a class -/
/-- no __init__ -/
structure ClsB (K : PySem.W.Frag) (mg : Str → Option Value) (x : Str) (C : Addr) : Prop where
  ex : PySem.W.excIn K C He.veBase "ValueError.__new__" = true
  kp : PySem.W.keepIn K (.ref C) = true
  sub : PySem.W.subIn K (.ref C) (.type "BaseException") = some true
  ty : PySem.W.typeIn K (.ref C) = some (.type "type")
  exc : ExcC K C
  glob : mg x = some (.ref C)
/-- an __init__ that keeps ini -/
structure ClsH (P : Program) (w : World) (K : PySem.W.Frag) (mg : Str → Option Value) (base : Heap) (x : Str) (fs : List Str) (le : Bool) (ini : Sp) (C : Addr) (k : Nat) : Prop where
  oex : OexG K C (nid le) (btl le)
  exc : ExcC K C
  xf : XfC K C
  no : ∀ f ∈ fs, PySem.W.findIn K (.ref C) f = some none
  glob : mg x = some (.ref C)
  init : ∃ (fI : Addr) (fd : FuncData) (ps : List Str), PySem.W.findIn K (.ref C) "__init__" = some (some (.ref fI)) ∧ PySem.W.typeIn K (.ref fI) = some (.type "function") ∧ FnOk P w K mg base CX0 k fI fd ps ini ∧ Binds K fd ps []
section
variable {P : Program} {w : World} {K : PySem.W.Frag} {mg : Str → Option Value} {base : Heap} {x : Str} {k : Nat}
theorem clsB_of (h : (Ck.bare x).ok K = true) (g : mg x = some (.ref (He.ga K x))) : ClsB K mg x (He.ga K x) := by
  obtain ⟨h1, h2⟩ := Bool.and_eq_true_iff.mp h
  obtain ⟨a, b, c, d⟩ := He.exc_ok h1
  exact ⟨a, b, c, d, excB_ok h2, g⟩
theorem clsH_of {fs : List Str} {le : Bool} {ini : Sp} {ps : List Str} {fd : FuncData} (h : (Ck.has x fs le).ok K = true) (g : mg x = some (.ref (He.ga K x)))
    (F : FnOk P w K mg base CX0 k (He.ma K (He.ga K x) "__init__") fd ps ini) (b : Binds K fd ps []) : ClsH P w K mg base x fs le ini (He.ga K x) k := by
  obtain ⟨h1, h⟩ := Bool.and_eq_true_iff.mp h
  obtain ⟨h2, h⟩ := Bool.and_eq_true_iff.mp h
  obtain ⟨h3, h⟩ := Bool.and_eq_true_iff.mp h
  obtain ⟨h4, h5⟩ := Bool.and_eq_true_iff.mp h
  have e := excB_ok h2
  exact ⟨oexGB_ok h1, e, ⟨e.hg, e.hk, e.hs, e.hd⟩, fun f hf => of_decide_eq_true (List.all_eq_true.mp h3 f hf), g, _, fd, ps, of_decide_eq_true h4, of_decide_eq_true h5, F, b⟩
end
/-! ### made -/
section
variable {X : Cx} {x : Str} {C : Addr} {k : Nat} {le : Bool} {f g : Str} {e e2 : Expr} {te tf : TE} {p pos : Pos}
theorem pmk5_B (c : ClsB X.K X.mg x C) (hg : Gl X x) (hdb : (x == ("__debug__" : Str)) = false := by decide) : L2H.PMk5 X (.Call (.Name x p) [] [] pos) (fun _ H Q => Q (.ref C) none H) :=
  pmk5_own0 F.excBase_ValueError c.ex c.glob c.kp (raises_own c.sub c.ty) hg hdb
theorem pmk5_H1 (c : ClsH X.prog X.w X.K X.mg X.base x [f] le (sp_initG1 X.K le C f) C k) (hr : Room (k + 1) X.A) (hg : Gl X x) (he : PE X e te) (hm : Mono te) (hdb : (x == ("__debug__" : Str)) = false := by decide)
    (hs : starEach [e] X.env = (false, eval e X.env) :: starEach [] X.env := by rfl) (hpl : (backTo pos (starEach [] X.env)).any (·.1) = false := by rfl) : L2H.PMk5 X (.Call (.Name x p) [e] [] pos) (tMk1 C f te) := by
  obtain ⟨fI, fd, ps, iC, tI, F1, b⟩ := c.init
  intro pins s σ H Q I h
  exact pmk5_osg (baseOf le) c.oex iC tI F1 hr b pass0 hg c.glob (pa_cons he pa_nil hs) hdb hs hpl pins s σ H Q I (mkG1_of c.oex (c.no f (List.mem_cons_self ..)) h hm)
theorem ps_rz5N {E : XK} {t : L2.St → Hp → XK → Prop} (hc : X.calm = true) (tk : L2N.Takes X (fun cls d _ H => E cls d H)) (he : L2H.PMk5 X e t) : PS X (.Raise (some e) none pos) (tRaise E t) := L2N.ps_raise hc tk he.pmk
end
end Tw
set_option Elab.async false
set_option linter.all false
set_option maxRecDepth 100000
set_option maxHeartbeats 4000000
/-! callees that raise: where their promise may be used -/
namespace Tw
open PySem PySem.Spec PyProof.Rows L2
section
variable {P : Program} {w : World} {K : PySem.W.Frag} {mg : Str → Option Value} {base : Heap} {X : Cx}
theorem cx_of_N {outer : List PySem.Env} {H : Hp} {s : Shared} {E : XK} {u : Value} {s' : Shared} (h : L2N.CX P w outer H s E u s') : L2.CX P w outer H s E u s' := by
  obtain ⟨a, B, H', cls, d, h1, fl, h3⟩ := h
  exact ⟨a, B, H', cls, d, h1, L2H.flyingZ_imp (fun o z => z.zc) fl, h3⟩
theorem Cal.ofN {x : Str} {ps : List Str} {k : Nat} {sp : Sp} (c : Cal P w K mg base (L2N.CX P w) x ps k sp) : Cal P w K mg base (L2.CX P w) x ps k sp := by
  obtain ⟨f, fd, F, g, kp, b⟩ := c
  refine ⟨f, fd, ⟨F.len, fun A outer s H args us vs Q E hr e0 hb r h => codeAny_mono (F.run A outer s H args us vs Q E hr e0 hb r h) fun r s' z => ?_⟩, g, kp, b⟩
  match r, z with
  | .ok (.ret u), z => exact z
  | .ok .next, z => exact z
  | .ok .brk, z => exact z
  | .ok .cont, z => exact z
  | .error e, z => exact cx_of_N z
end
end Tw
set_option Elab.async false
set_option linter.all false
set_option maxRecDepth 100000
set_option maxHeartbeats 4000000
/-! plain layer: list(zip(text, tuple)), a written table asked -/
namespace Tw
open PySem PySem.Spec PyProof.Rows L2
/-- the sgs of a text -/
def sgs (z : Str) : List PV := z.cps.toList.map fun c => .str ⟨#[c]⟩
section
variable {K : PySem.W.Frag} [Tbs K] {dk : Option Addr} {F0 F : Addr → Prop} {H0 : Hp} {σ : L2.St} {ρ : Env}
theorem layZ_ok : ∀ {l : List (Nat × V)} {H H' : Hp} {Ts : List Addr} {xs : List PV}, LayZ H l Ts H' → PInv K dk F0 H0 F σ H ρ → RepL K dk F H (l.map (·.2)) xs →
    PInv K dk F0 H0 F σ H' ρ ∧ Grow K F H F H' ∧ RepL K dk F H' (Ts.map V.ref) (zipP (l.map fun p => .str ⟨#[p.1]⟩) xs)
  | [], H, H', Ts, xs, h, I, r => by
    cases h
    exact ⟨I, Grow.refl, .nil⟩
  | (c, y) :: l, H, H', Ts, xs, h, I, r => by
    cases h with
    | cons hn h =>
      cases r with
      | cons a b =>
        have g1 : Grow K F H F (upd H _ (.tup [.str ⟨#[c]⟩, y])) := Grow.new hn
        obtain ⟨I2, g2, r2⟩ := layZ_ok h (I.new hn) (b.mono g1)
        refine ⟨I2, g1.trans g2, .cons (.tup (g2.tup _ _ (SqT.of upd_same)) (.cons (.str _) (.cons (a.mono (g1.trans g2)) .nil))) r2⟩
end
namespace SN
variable {K : PySem.W.Frag} [Tbs K]
/-- list(zip(text, tuple)) -/
def listZipS (a b : SE K) : SN K where
  rd := fun E => tListZipS K (tCons (a.rd E) (tCons (b.rd E) tNil))
  wp := fun PE ρ P => a.wp PE ρ fun x ρ1 => b.wp PE ρ1 fun y ρ2 => ∃ (z : Str) (xs : List PV), x = .str z ∧ y = .tup xs ∧ xs.length ≤ sizeLine ∧ P (zipP (sgs z) xs) ρ2
  ok := by
    intro dk F0 H0 F σ H ρ E PE P Q I e h q
    refine a.ok I e h fun v H1 F1 x ρ1 g1 I1 r1 h1 => ?_
    refine b.ok I1 (e.grow g1) h1 fun w H2 F2 y ρ2 g2 I2 r2 h2 => ?_
    obtain ⟨z, xs, rfl, rfl, hl, h2⟩ := h2
    cases r1
    cases r2 with
    | tup s l =>
      rename_i vs
      refine ⟨z, _, vs, rfl, s, by rw [l.len]; exact hl, fun Ts H3 D lz hD => ?_⟩
      -- only as many as both have
      have key : ∀ (cs : List Nat) (ws : List V) (ys : List PV), RepL K dk F2 H2 ws ys → ∃ ys', RepL K dk F2 H2 ((cs.zip ws).map (·.2)) ys' ∧ zipP ((cs.zip ws).map fun p => .str ⟨#[p.1]⟩) ys' = zipP (cs.map fun c => .str ⟨#[c]⟩) ys := by
        intro cs
        induction cs with
        | nil => intro ws ys _; exact ⟨[], .nil, rfl⟩
        | cons c cs ih =>
          intro ws ys hr
          cases hr with
          | nil => exact ⟨[], .nil, rfl⟩
          | cons a b =>
            rename_i w0 y0 ws0 ys0
            obtain ⟨ys', r', e'⟩ := ih ws0 ys0 b
            refine ⟨y0 :: ys', .cons a r', ?_⟩
            simp only [zipP, List.zip_cons_cons, List.map_cons] at e' ⊢
            rw [e']
      obtain ⟨ys', r', e'⟩ := key z.cps.toList vs xs l
      obtain ⟨I3, g3, r3⟩ := layZ_ok lz I2 r'
      rw [e'] at r3
      obtain ⟨I4, g4, e4, r4, a1, a2, a3, a4⟩ := I3.laid hD r3
      exact q _ _ _ _ _ _ (((g1.trans g2).trans g3).trans g4) I4 e4 r4 a1 a2 a3 a4 h2
end SN
namespace SE
variable {K : PySem.W.Frag} [Tbs K]
/-- TABLE[x], a table of texts written in the program -/
def tabIx (w : World) (D : Addr) (l : List (Str × Str)) (hf : FormsAt K w D l) (a : SE K) : SE K where
  rd := fun E => tOp (rIxD K w) (tC (.ref D)) (a.rd E)
  wp := fun PE ρ P => a.wp PE ρ fun x ρ1 => ∃ q : Str × Str, q ∈ l ∧ x = .str q.1 ∧ P (.str q.2) ρ1
  ok := by
    intro dk F0 H0 F σ H ρ E PE P Q I e h q
    show tOp (rIxD K w) (tC (.ref D)) (a.rd E) σ H Q
    refine a.ok I e h fun v H1 F1 x ρ1 g1 I1 r1 h1 => ?_
    obtain ⟨p, hp, rfl, h1⟩ := h1
    cases r1
    exact ⟨D, p.1, .str p.2, rfl, rfl, hf.dct hp, q _ _ _ _ _ g1 I1 (.str _) h1⟩
end SE
section
variable {K : PySem.W.Frag} [Tbs K] {PE : PEK} {ρ : Env} {Q : PV → Env → Prop}
theorem w_SN_listZipS {a b : SE K} {P : List PV → Env → Prop} : (SN.listZipS a b).wp PE ρ P = (a.wp PE ρ fun x ρ1 => b.wp PE ρ1 fun y ρ2 => ∃ (z : Str) (xs : List PV), x = .str z ∧ y = .tup xs ∧ xs.length ≤ sizeLine ∧ P (zipP (sgs z) xs) ρ2) := rfl
theorem w_SE_tabIx {w : World} {D : Addr} {l : List (Str × Str)} {hf : FormsAt K w D l} {a : SE K} : (SE.tabIx w D l hf a).wp PE ρ Q = (a.wp PE ρ fun x ρ1 => ∃ q : Str × Str, q ∈ l ∧ x = .str q.1 ∧ Q (.str q.2) ρ1) := rfl
theorem w_SB_any_ {xs : List PV} {P : PV → Prop} : (SB.any_ : SB K).wp xs P = (∃ bs : List Bool, xs = [.lst (bs.map .bl)] ∧ P (.bl (bs.any id))) := rfl
end
/-! ### tables and classes in one head -/
end Tw
set_option Elab.async false
set_option linter.all false
set_option maxRecDepth 100000
set_option maxHeartbeats 4000000
/-! steps: the word with which a deed stops, the result of a script; deeds: do_script, do_deed -/
namespace Tw
open PySem PySem.Spec PyProof.Rows L2
local macro_rules | `(tactic| walk_at "wp") => `(tactic| try simp (config := { maxSteps := 1000000 }) only [↓w_SE_var, ↓w_SE_non, ↓w_SE_bl, ↓w_SE_int, ↓w_SE_str, ↓w_SE_op, ↓w_SE_un, ↓w_SE_cb, ↓w_SE_tup, ↓w_SE_lst, ↓w_SE_ifE, ↓w_SE_isN, ↓w_SE_notN, ↓w_SA_nil, ↓w_SA_cons, ↓w_ST_not, ↓w_ST_and, ↓w_ST_or, ↓w_ST_yes, ↓w_ST_tru, ↓w_SG_name, ↓w_SS_next, ↓w_SS_brk, ↓w_SS_cont, ↓w_SS_never, ↓w_SS_seq, ↓w_SS_cut, ↓w_SS_asg, ↓w_SS_drop, ↓w_SS_ret, ↓w_SS_retN, ↓w_SS_ifS, ↓w_SS_for_, ↓w_SS_while_, ↓w_SN_lst, ↓w_SE_nl, ↓w_SS_own, ↓w_SN_lc, ↓w_SE_call, ↓w_SE_callS, ↓w_SE_pop, ↓w_SP__no, ↓w_SS_raise0, ↓w_SS_raise1, ↓w_SS_raise2, ↓w_SS_tryO, ↓w_SS_tryA, ↓w_SS_tryM, ↓w_SE_xf, ↓w_SE_isE, ↓w_SE_popAt, ↓w_SN_slO, ↓w_SN_sortedS, ↓w_SN_sortedI, ↓w_SS_asg2, ↓w_SS_par, ↓w_SE_joined, ↓w_SE_join, ↓w_SE_txtB, ↓w_SE_lenSetT, ↓w_SE_chain, ↓w_SO_inSign, ↓w_SO_eqE, ↓w_SB_all_, ↓w_SB_repr, ↓c_i0, ↓c_c0, ↓c_iC, ↓c_addS, ↓c_repS, ↓c_catT, ↓c_ixS, ↓c_ixT, ↓c_ixL, ↓c_eq_ii, ↓c_eq_ss, ↓c_eq_ns, ↓c_eq_sn, ↓c_eq_bb, ↓c_eq_nn, ↓c_eq_ni, ↓c_eq_in, ↓c_ne_ii, ↓c_ne_ss, ↓c_ne_bb, ↓c_ne_ns, ↓c_ne_sn, ↓c_ne_nn, ↓c_ne_ni, ↓c_ne_in, ↓c_inST, ↓c_inSL, ↓c_lenS, ↓c_lenQt, ↓c_lenQl, ↓c_abs, ↓c_int1i, ↓c_int1b, ↓c_tupl, ↓c_tupt, ↓c_max2, ↓c_min2, ↓c_neg, ↓c_tst, ↓c_asI, ↓c_asS, ↓c_asT, ↓c_asL, ↓c_asQl, ↓c_asQt, ↓o_tt, ↓o_ts, ↓o_tl, ↓o_ti, ↓o_st, ↓o_ss, ↓o_sl_, ↓o_si, ↓o_lt, ↓o_ls, ↓o_ll, ↓o_li, ↓o_it, ↓o_is, ↓o_il, ↓o_ii, ↓o_bt, ↓o_bs, ↓o_bl_, ↓o_bi, ↓o_nt, ↓o_ns, ↓o_nl, ↓o_ni, ↓o_dt, ↓o_ds, ↓o_dl, ↓o_di, ↓v_test, ↓v_b, ↓v_andV, ↓v_orV, ↓v_notV, ↓v_isi, ↓v_at, ↓v_slS, ↓v_slT, ↓v_slL, ↓v_listOf, ↓v_revL, ↓v_revT, ↓v_cat, ↓v_rep, ↓v_ilist, ↓v_itup, ↓v_istr, ↓v_enumL, ↓v_enumT, ↓v_rng1, ↓v_rng2, ↓c_rng1, ↓c_rng2, ↓v_zipA, ↓c_zipt, ↓c_zipl, ↓v_gtup, ↓c_unp, ↓v_gunl, ↓c_unpL, ↓v_fmt, ↓c_fmts, ↓c_fmti, ↓v_js, ↓v_lenO, ↓v_tupO, ↓v_listO, ↓v_truO, ↓v_eqEO, ↓v_append, ↓v_ixO, ↓v_extendT, ↓v_extendL, ↓v_insert, ↓v_setL, ↓v_inO, ↓v_v0, ↓v_v0o, ↓v_v0d, ↓v_vs, ↓v_o0, ↓v_os, ↓v_d0, ↓v_ds, tr_non, tr_bl, tr_int, tr_str, tr_tup, tr_lst, tr_dic, in_non, in_bl, in_int, in_str, in_tup, in_lst, in_dic, we_nil, we_cons, sl_name, sl_tup, sl_unl, sa_nil, sa_cons, pr_val, pr_own, st_app, st_nil, js_nil, ↓w_for0, ↓w_for1, List.getElem?_cons_zero, List.getElem?_cons_succ, List.set_cons_zero, List.set_cons_succ, List.length_cons, List.length_nil, List.replicate_succ, List.replicate_zero, if_true, Bool.not_true, Bool.not_false, Bool.false_eq_true, if_false, ite_true, ite_false, decide_true, decide_false, Nat.reduceSub, Nat.reduceAdd, Nat.zero_add, true_and, and_true, ↓w_SS_par3, ↓w_SE_dnew, ↓w_SE_dcon, ↓w_SE_tupF, ↓w_SE_slF, ↓w_SE_tupleF, ↓w_SE_idxF, ↓c_catF, ↓c_inF, ↓c_ixF, ↓c_lenF, ↓w_SI_frt, ↓c_asF, ↓w_SN_sortedP, ↓w_SG_pairs, ↓w_SE_dtxt, ↓w_SE_dget2, ↓w_SN_listZipS, ↓w_SE_tabIx])
section
variable {K : PySem.W.Frag} [Tbs K]
/-- what a deed of these kinds asks for -/
def kinds (w a b : Str) : List (Str × Str) := if w ∈ ones then [("o", a)] else if w = "wrap" then [("o", a), ("n", b)] else if w = "put" then [("n", a), ("o", b)] else [("o", a), ("o", b)]
end
end Tw
set_option Elab.async false
set_option linter.all false
set_option maxRecDepth 100000
set_option maxHeartbeats 4000000
/-! steps: the result of a script; deeds: do_script, do_deed -/
namespace Tw
open PySem PySem.Spec PyProof.Rows L2
local macro_rules | `(tactic| walk_at "wp") => `(tactic| try simp (config := { maxSteps := 1000000 }) only [↓w_SE_var, ↓w_SE_non, ↓w_SE_bl, ↓w_SE_int, ↓w_SE_str, ↓w_SE_op, ↓w_SE_un, ↓w_SE_cb, ↓w_SE_tup, ↓w_SE_lst, ↓w_SE_ifE, ↓w_SE_isN, ↓w_SE_notN, ↓w_SA_nil, ↓w_SA_cons, ↓w_ST_not, ↓w_ST_and, ↓w_ST_or, ↓w_ST_yes, ↓w_ST_tru, ↓w_SG_name, ↓w_SS_next, ↓w_SS_brk, ↓w_SS_cont, ↓w_SS_never, ↓w_SS_seq, ↓w_SS_cut, ↓w_SS_asg, ↓w_SS_drop, ↓w_SS_ret, ↓w_SS_retN, ↓w_SS_ifS, ↓w_SS_for_, ↓w_SS_while_, ↓w_SN_lst, ↓w_SE_nl, ↓w_SS_own, ↓w_SN_lc, ↓w_SE_call, ↓w_SE_callS, ↓w_SE_pop, ↓w_SP__no, ↓w_SS_raise0, ↓w_SS_raise1, ↓w_SS_raise2, ↓w_SS_tryO, ↓w_SS_tryA, ↓w_SS_tryM, ↓w_SE_xf, ↓w_SE_isE, ↓w_SE_popAt, ↓w_SN_slO, ↓w_SN_sortedS, ↓w_SN_sortedI, ↓w_SS_asg2, ↓w_SS_par, ↓w_SE_joined, ↓w_SE_join, ↓w_SE_txtB, ↓w_SE_lenSetT, ↓w_SE_chain, ↓w_SO_inSign, ↓w_SO_eqE, ↓w_SB_all_, ↓w_SB_repr, ↓c_i0, ↓c_c0, ↓c_iC, ↓c_addS, ↓c_repS, ↓c_catT, ↓c_ixS, ↓c_ixT, ↓c_ixL, ↓c_eq_ii, ↓c_eq_ss, ↓c_eq_ns, ↓c_eq_sn, ↓c_eq_bb, ↓c_eq_nn, ↓c_eq_ni, ↓c_eq_in, ↓c_ne_ii, ↓c_ne_ss, ↓c_ne_bb, ↓c_ne_ns, ↓c_ne_sn, ↓c_ne_nn, ↓c_ne_ni, ↓c_ne_in, ↓c_inST, ↓c_inSL, ↓c_lenS, ↓c_lenQt, ↓c_lenQl, ↓c_abs, ↓c_int1i, ↓c_int1b, ↓c_tupl, ↓c_tupt, ↓c_max2, ↓c_min2, ↓c_neg, ↓c_tst, ↓c_asI, ↓c_asS, ↓c_asT, ↓c_asL, ↓c_asQl, ↓c_asQt, ↓o_tt, ↓o_ts, ↓o_tl, ↓o_ti, ↓o_st, ↓o_ss, ↓o_sl_, ↓o_si, ↓o_lt, ↓o_ls, ↓o_ll, ↓o_li, ↓o_it, ↓o_is, ↓o_il, ↓o_ii, ↓o_bt, ↓o_bs, ↓o_bl_, ↓o_bi, ↓o_nt, ↓o_ns, ↓o_nl, ↓o_ni, ↓o_dt, ↓o_ds, ↓o_dl, ↓o_di, ↓v_test, ↓v_b, ↓v_andV, ↓v_orV, ↓v_notV, ↓v_isi, ↓v_at, ↓v_slS, ↓v_slT, ↓v_slL, ↓v_listOf, ↓v_revL, ↓v_revT, ↓v_cat, ↓v_rep, ↓v_ilist, ↓v_itup, ↓v_istr, ↓v_enumL, ↓v_enumT, ↓v_rng1, ↓v_rng2, ↓c_rng1, ↓c_rng2, ↓v_zipA, ↓c_zipt, ↓c_zipl, ↓v_gtup, ↓c_unp, ↓v_gunl, ↓c_unpL, ↓v_fmt, ↓c_fmts, ↓c_fmti, ↓v_js, ↓v_lenO, ↓v_tupO, ↓v_listO, ↓v_truO, ↓v_eqEO, ↓v_append, ↓v_ixO, ↓v_extendT, ↓v_extendL, ↓v_insert, ↓v_setL, ↓v_inO, ↓v_v0, ↓v_v0o, ↓v_v0d, ↓v_vs, ↓v_o0, ↓v_os, ↓v_d0, ↓v_ds, tr_non, tr_bl, tr_int, tr_str, tr_tup, tr_lst, tr_dic, in_non, in_bl, in_int, in_str, in_tup, in_lst, in_dic, we_nil, we_cons, sl_name, sl_tup, sl_unl, sa_nil, sa_cons, pr_val, pr_own, st_app, st_nil, js_nil, ↓w_for0, ↓w_for1, List.getElem?_cons_zero, List.getElem?_cons_succ, List.set_cons_zero, List.set_cons_succ, List.length_cons, List.length_nil, List.replicate_succ, List.replicate_zero, if_true, Bool.not_true, Bool.not_false, Bool.false_eq_true, if_false, ite_true, ite_false, decide_true, decide_false, Nat.reduceSub, Nat.reduceAdd, Nat.zero_add, true_and, and_true, ↓w_SS_par3, ↓w_SE_dnew, ↓w_SE_dcon, ↓w_SE_tupF, ↓w_SE_slF, ↓w_SE_tupleF, ↓w_SE_idxF, ↓c_catF, ↓c_inF, ↓c_ixF, ↓c_lenF, ↓w_SI_frt, ↓c_asF, ↓w_SN_sortedP, ↓w_SG_pairs, ↓w_SE_dtxt, ↓w_SE_dget2, ↓w_SN_listZipS, ↓w_SE_tabIx])
/-- a deed: its word, its names (b means nothing where there is one name) -/
abbrev Dd := Str × Str × Str
structure DOk (d : Dd) : Prop where
  w : d.1 ∈ words13
  a : IsName d.2.1
  b : d.1 ∉ ones → IsName d.2.2
  bl : d.2.2.length ≤ 1000
section
variable {K : PySem.W.Frag} [Tbs K]
end
section
variable {K : PySem.W.Frag} [Tbs K]
end
end Tw
set_option Elab.async false
set_option linter.all false
set_option maxRecDepth 100000
set_option maxHeartbeats 4000000
/-! the law's row, laid frozen (a def that calls itself) -/
namespace Tw
open PySem PySem.Spec PyProof.Rows L2 TL
local macro_rules | `(tactic| walk_at "wp") => `(tactic| try simp (config := { maxSteps := 1000000 }) only [↓w_SE_var, ↓w_SE_non, ↓w_SE_bl, ↓w_SE_int, ↓w_SE_str, ↓w_SE_op, ↓w_SE_un, ↓w_SE_cb, ↓w_SE_tup, ↓w_SE_lst, ↓w_SE_ifE, ↓w_SE_isN, ↓w_SE_notN, ↓w_SA_nil, ↓w_SA_cons, ↓w_ST_not, ↓w_ST_and, ↓w_ST_or, ↓w_ST_yes, ↓w_ST_tru, ↓w_SG_name, ↓w_SS_next, ↓w_SS_brk, ↓w_SS_cont, ↓w_SS_never, ↓w_SS_seq, ↓w_SS_cut, ↓w_SS_asg, ↓w_SS_drop, ↓w_SS_ret, ↓w_SS_retN, ↓w_SS_ifS, ↓w_SS_for_, ↓w_SS_while_, ↓w_SN_lst, ↓w_SE_nl, ↓w_SS_own, ↓w_SN_lc, ↓w_SE_call, ↓w_SE_callS, ↓w_SE_pop, ↓w_SP__no, ↓w_SS_raise0, ↓w_SS_raise1, ↓w_SS_raise2, ↓w_SS_tryO, ↓w_SS_tryA, ↓w_SS_tryM, ↓w_SE_xf, ↓w_SE_isE, ↓w_SE_popAt, ↓w_SN_slO, ↓w_SN_sortedS, ↓w_SN_sortedI, ↓w_SS_asg2, ↓w_SS_par, ↓w_SE_joined, ↓w_SE_join, ↓w_SE_txtB, ↓w_SE_lenSetT, ↓w_SE_chain, ↓w_SO_inSign, ↓w_SO_eqE, ↓w_SB_all_, ↓w_SB_repr, ↓c_i0, ↓c_c0, ↓c_iC, ↓c_addS, ↓c_repS, ↓c_catT, ↓c_ixS, ↓c_ixT, ↓c_ixL, ↓c_eq_ii, ↓c_eq_ss, ↓c_eq_ns, ↓c_eq_sn, ↓c_eq_bb, ↓c_eq_nn, ↓c_eq_ni, ↓c_eq_in, ↓c_ne_ii, ↓c_ne_ss, ↓c_ne_bb, ↓c_ne_ns, ↓c_ne_sn, ↓c_ne_nn, ↓c_ne_ni, ↓c_ne_in, ↓c_inST, ↓c_inSL, ↓c_lenS, ↓c_lenQt, ↓c_lenQl, ↓c_abs, ↓c_int1i, ↓c_int1b, ↓c_tupl, ↓c_tupt, ↓c_max2, ↓c_min2, ↓c_neg, ↓c_tst, ↓c_asI, ↓c_asS, ↓c_asT, ↓c_asL, ↓c_asQl, ↓c_asQt, ↓o_tt, ↓o_ts, ↓o_tl, ↓o_ti, ↓o_st, ↓o_ss, ↓o_sl_, ↓o_si, ↓o_lt, ↓o_ls, ↓o_ll, ↓o_li, ↓o_it, ↓o_is, ↓o_il, ↓o_ii, ↓o_bt, ↓o_bs, ↓o_bl_, ↓o_bi, ↓o_nt, ↓o_ns, ↓o_nl, ↓o_ni, ↓o_dt, ↓o_ds, ↓o_dl, ↓o_di, ↓v_test, ↓v_b, ↓v_andV, ↓v_orV, ↓v_notV, ↓v_isi, ↓v_at, ↓v_slS, ↓v_slT, ↓v_slL, ↓v_listOf, ↓v_revL, ↓v_revT, ↓v_cat, ↓v_rep, ↓v_ilist, ↓v_itup, ↓v_istr, ↓v_enumL, ↓v_enumT, ↓v_rng1, ↓v_rng2, ↓c_rng1, ↓c_rng2, ↓v_zipA, ↓c_zipt, ↓c_zipl, ↓v_gtup, ↓c_unp, ↓v_gunl, ↓c_unpL, ↓v_fmt, ↓c_fmts, ↓c_fmti, ↓v_js, ↓v_lenO, ↓v_tupO, ↓v_listO, ↓v_truO, ↓v_eqEO, ↓v_append, ↓v_ixO, ↓v_extendT, ↓v_extendL, ↓v_insert, ↓v_setL, ↓v_inO, ↓v_v0, ↓v_v0o, ↓v_v0d, ↓v_vs, ↓v_o0, ↓v_os, ↓v_d0, ↓v_ds, tr_non, tr_bl, tr_int, tr_str, tr_tup, tr_lst, tr_dic, in_non, in_bl, in_int, in_str, in_tup, in_lst, in_dic, we_nil, we_cons, sl_name, sl_tup, sl_unl, sa_nil, sa_cons, pr_val, pr_own, st_app, st_nil, js_nil, ↓w_for0, ↓w_for1, List.getElem?_cons_zero, List.getElem?_cons_succ, List.set_cons_zero, List.set_cons_succ, List.length_cons, List.length_nil, List.replicate_succ, List.replicate_zero, if_true, Bool.not_true, Bool.not_false, Bool.false_eq_true, if_false, ite_true, ite_false, decide_true, decide_false, Nat.reduceSub, Nat.reduceAdd, Nat.zero_add, true_and, and_true, ↓w_SE_tupF, ↓w_SE_slF, ↓w_SE_tupleF, ↓w_SE_idxF, ↓c_catF, ↓c_inF, ↓c_ixF, ↓c_lenF, ↓w_SI_frt, ↓c_asF])
section
variable {K : PySem.W.Frag} [Tbs K]
end
end Tw
set_option Elab.async false
set_option linter.all false
set_option maxRecDepth 100000
set_option maxHeartbeats 4000000
/-! plain layer: what is shown: deeper data, an int in a clause -/
namespace Tw
open PySem PySem.Spec PyProof.Rows L2
section
variable {X : Cx} {k : Nat}
/-- repr(x), x a list or a tuple of plain data, up to 350 deep -/
abbrev rReprL (K : PySem.W.Frag) [Tbs K] : List V → Hp → VK → Prop := fun xs H Q => ∃ (a : Addr) (d : PyData), xs = [.ref a] ∧ Dp K H (.ref a) d ∧ d.showable = true ∧ d.hasDict = false ∧ d.depth ≤ 350 ∧ d.shown.length ≤ sizeLine ∧ Q (.str d.shown) H
end
namespace SB
variable {K : PySem.W.Frag} [Tbs K]
end SB
/-- it can be shown: how deep, how heavy -/
structure ShO (x : PV) (dep wt : Nat) : Prop where
  pl : x.plain = true
  lay : x.pd.canLay0 = true
  sh : x.pd.showable = true
  is : x.pd.intsShort 13 = true
  dp : x.pd.depth ≤ dep
  wt : x.pd.weight ≤ wt
theorem ShO.mono {x : PV} {d d' w w' : Nat} (h : ShO x d w) (hd : d ≤ d') (hw : w ≤ w') : ShO x d' w' := ⟨h.pl, h.lay, h.sh, h.is, Nat.le_trans h.dp hd, Nat.le_trans h.wt hw⟩
theorem ShO.str {z : Str} (h : PyData.strOk z = true) : ShO (.str z) 0 z.length := ⟨rfl, by simp only [PV.pd, PyData.canLay0]; exact h, rfl, rfl, Nat.le_refl _, Nat.le_refl _⟩
theorem ShO.all {dep wt : Nat} : ∀ {xs : List PV}, (∀ x ∈ xs, ShO x dep wt) → PV.plainL xs = true ∧ PyData.canLayAll0 (PV.pdL xs) = true ∧ PyData.showableAll (PV.pdL xs) = true ∧ PyData.intsShortAll 13 (PV.pdL xs) = true ∧ PyData.depthAll (PV.pdL xs) ≤ dep ∧ PyData.weightAll (PV.pdL xs) ≤ (wt + 1) * xs.length
  | [], _ => ⟨rfl, rfl, rfl, rfl, Nat.zero_le _, Nat.zero_le _⟩
  | x :: xs, h => by
    obtain ⟨a1, a2, a3, a4, a5, a6⟩ := ShO.all (fun y hy => h y (List.mem_cons_of_mem _ hy))
    have b := h x (List.mem_cons_self ..)
    refine ⟨by simp only [PV.plainL, b.pl, a1, Bool.and_self], by simp only [PV.pdL, PyData.canLayAll0, b.lay, a2, Bool.and_self], by simp only [PV.pdL, PyData.showableAll, b.sh, a3, Bool.and_self], by simp only [PV.pdL, PyData.intsShortAll, b.is, a4, Bool.and_self], ?_, ?_⟩
    · simp only [PV.pdL, PyData.depthAll]
      exact Nat.max_le.mpr ⟨b.dp, a5⟩
    · simp only [PV.pdL, PyData.weightAll, List.length_cons]
      have := b.wt
      rw [Nat.mul_add]; omega
theorem ShO.tup {xs : List PV} {dep wt : Nat} (h : ∀ x ∈ xs, ShO x dep wt) : ShO (.tup xs) (dep + 1) ((wt + 1) * xs.length) := by
  obtain ⟨a1, a2, a3, a4, a5, a6⟩ := ShO.all h
  exact ⟨a1, by simp only [PV.pd, PyData.canLay0]; exact a2, by simp only [PV.pd, PyData.showable]; exact a3, by simp only [PV.pd, PyData.intsShort]; exact a4, by simp only [PV.pd, PyData.depth]; omega, by simp only [PV.pd, PyData.weight]; exact a6⟩
theorem fo_show : ∀ {f : Fo}, (∀ z ∈ f.nm, IsName z) → PyData.showableAll f.data = true ∧ PyData.intsShortAll 13 f.data = true ∧ PyData.weightAll f.data ≤ 11 * f.nm.length
  | .nil, _ => ⟨rfl, rfl, Nat.zero_le _⟩
  | .cons n ks r, h => by
    have hn : IsName n := h n (List.mem_cons_self ..)
    obtain ⟨a1, a2, a3⟩ := fo_show (f := ks) fun z hz => h z (List.mem_cons_of_mem _ (List.mem_append_left _ hz))
    obtain ⟨b1, b2, b3⟩ := fo_show (f := r) fun z hz => h z (List.mem_cons_of_mem _ (List.mem_append_right _ hz))
    have h8 := hn.eight
    have h9 : n.cps.size ≤ 8 := h8
    refine ⟨by simp only [Fo.data, PyData.showableAll, PyData.showable, a1, b1, Bool.and_self], by simp only [Fo.data, PyData.intsShortAll, PyData.intsShort, a2, b2, Bool.and_self], ?_⟩
    simp only [Fo.data, PyData.weightAll, PyData.weight, Fo.nm, List.length_cons, List.length_append]
    omega
theorem ShO.wood {f : Fo} {d : Nat} (hn : ∀ z ∈ f.nm, IsName z) (hd : f.dp ≤ d) : ShO f.pv (2 * d + 1) (11 * f.nm.length) := by
  obtain ⟨a1, a2, a3⟩ := fo_show hn
  refine ⟨pv_plain f, pv_lay hn, ?_, ?_, pv_depth hd, ?_⟩
  · show PyData.showable (.tuple (PV.pdL f.pvs)) = true
    rw [pvs_pd]; simp only [PyData.showable]; exact a1
  · show PyData.intsShort 13 (.tuple (PV.pdL f.pvs)) = true
    rw [pvs_pd]; simp only [PyData.intsShort]; exact a2
  · show PyData.weight (.tuple (PV.pdL f.pvs)) ≤ _
    rw [pvs_pd]; simp only [PyData.weight]; exact a3
theorem ShO.int {i : Int} (h : i.natAbs < 10 ^ 9) : ShO (.int i) 0 64 := by
  have e : (10 : Nat) ^ 9 = 1000000000 := by decide
  have hl : i.natAbs.log2 < 30 := by
    by_cases h0 : i.natAbs = 0
    · rw [h0]; decide
    · exact (Nat.log2_lt h0).mpr (by omega)
  refine ⟨rfl, rfl, ?_, ?_, Nat.le_refl _, ?_⟩
  · simp only [PV.pd, PyData.showable, decide_eq_true_eq]; omega
  · simp only [PV.pd, PyData.intsShort, decide_eq_true_eq]
    exact PyData.shown_int_le (by omega)
  · simp only [PV.pd, PyData.weight]
    split <;> omega
end Tw
set_option Elab.async false
set_option linter.all false
set_option maxRecDepth 100000
set_option maxHeartbeats 4000000
/-! what the laws of scripts draw: a wood and further names, scripts, roles -/
namespace Tw
open PySem PySem.Spec PyProof.Rows L2 TL
local macro_rules | `(tactic| walk_at "wp") => `(tactic| try simp (config := { maxSteps := 1000000 }) only [↓w_SE_var, ↓w_SE_non, ↓w_SE_bl, ↓w_SE_int, ↓w_SE_str, ↓w_SE_op, ↓w_SE_un, ↓w_SE_cb, ↓w_SE_tup, ↓w_SE_lst, ↓w_SE_ifE, ↓w_SE_isN, ↓w_SE_notN, ↓w_SA_nil, ↓w_SA_cons, ↓w_ST_not, ↓w_ST_and, ↓w_ST_or, ↓w_ST_yes, ↓w_ST_tru, ↓w_SG_name, ↓w_SS_next, ↓w_SS_brk, ↓w_SS_cont, ↓w_SS_never, ↓w_SS_seq, ↓w_SS_cut, ↓w_SS_asg, ↓w_SS_drop, ↓w_SS_ret, ↓w_SS_retN, ↓w_SS_ifS, ↓w_SS_for_, ↓w_SS_while_, ↓w_SN_lst, ↓w_SE_nl, ↓w_SS_own, ↓w_SN_lc, ↓w_SE_call, ↓w_SE_callS, ↓w_SE_pop, ↓w_SP__no, ↓w_SS_raise0, ↓w_SS_raise1, ↓w_SS_raise2, ↓w_SS_tryO, ↓w_SS_tryA, ↓w_SS_tryM, ↓w_SE_xf, ↓w_SE_isE, ↓w_SE_popAt, ↓w_SN_slO, ↓w_SN_sortedS, ↓w_SN_sortedI, ↓w_SS_asg2, ↓w_SS_par, ↓w_SE_joined, ↓w_SE_join, ↓w_SE_txtB, ↓w_SE_lenSetT, ↓w_SE_chain, ↓w_SO_inSign, ↓w_SO_eqE, ↓w_SB_all_, ↓w_SB_repr, ↓c_i0, ↓c_c0, ↓c_iC, ↓c_addS, ↓c_repS, ↓c_catT, ↓c_ixS, ↓c_ixT, ↓c_ixL, ↓c_eq_ii, ↓c_eq_ss, ↓c_eq_ns, ↓c_eq_sn, ↓c_eq_bb, ↓c_eq_nn, ↓c_eq_ni, ↓c_eq_in, ↓c_ne_ii, ↓c_ne_ss, ↓c_ne_bb, ↓c_ne_ns, ↓c_ne_sn, ↓c_ne_nn, ↓c_ne_ni, ↓c_ne_in, ↓c_inST, ↓c_inSL, ↓c_lenS, ↓c_lenQt, ↓c_lenQl, ↓c_abs, ↓c_int1i, ↓c_int1b, ↓c_tupl, ↓c_tupt, ↓c_max2, ↓c_min2, ↓c_neg, ↓c_tst, ↓c_asI, ↓c_asS, ↓c_asT, ↓c_asL, ↓c_asQl, ↓c_asQt, ↓o_tt, ↓o_ts, ↓o_tl, ↓o_ti, ↓o_st, ↓o_ss, ↓o_sl_, ↓o_si, ↓o_lt, ↓o_ls, ↓o_ll, ↓o_li, ↓o_it, ↓o_is, ↓o_il, ↓o_ii, ↓o_bt, ↓o_bs, ↓o_bl_, ↓o_bi, ↓o_nt, ↓o_ns, ↓o_nl, ↓o_ni, ↓o_dt, ↓o_ds, ↓o_dl, ↓o_di, ↓v_test, ↓v_b, ↓v_andV, ↓v_orV, ↓v_notV, ↓v_isi, ↓v_at, ↓v_slS, ↓v_slT, ↓v_slL, ↓v_listOf, ↓v_revL, ↓v_revT, ↓v_cat, ↓v_rep, ↓v_ilist, ↓v_itup, ↓v_istr, ↓v_enumL, ↓v_enumT, ↓v_rng1, ↓v_rng2, ↓c_rng1, ↓c_rng2, ↓v_zipA, ↓c_zipt, ↓c_zipl, ↓v_gtup, ↓c_unp, ↓v_gunl, ↓c_unpL, ↓v_fmt, ↓c_fmts, ↓c_fmti, ↓v_js, ↓v_lenO, ↓v_tupO, ↓v_listO, ↓v_truO, ↓v_eqEO, ↓v_append, ↓v_ixO, ↓v_extendT, ↓v_extendL, ↓v_insert, ↓v_setL, ↓v_inO, ↓v_v0, ↓v_v0o, ↓v_v0d, ↓v_vs, ↓v_o0, ↓v_os, ↓v_d0, ↓v_ds, tr_non, tr_bl, tr_int, tr_str, tr_tup, tr_lst, tr_dic, in_non, in_bl, in_int, in_str, in_tup, in_lst, in_dic, we_nil, we_cons, sl_name, sl_tup, sl_unl, sa_nil, sa_cons, pr_val, pr_own, st_app, st_nil, js_nil, ↓w_for0, ↓w_for1, List.getElem?_cons_zero, List.getElem?_cons_succ, List.set_cons_zero, List.set_cons_succ, List.length_cons, List.length_nil, List.replicate_succ, List.replicate_zero, if_true, Bool.not_true, Bool.not_false, Bool.false_eq_true, if_false, ite_true, ite_false, decide_true, decide_false, Nat.reduceSub, Nat.reduceAdd, Nat.zero_add, true_and, and_true, ↓w_SE_tupF, ↓w_SE_slF, ↓w_SE_tupleF, ↓w_SE_idxF, ↓c_catF, ↓c_inF, ↓c_ixF, ↓c_lenF, ↓w_SI_frt, ↓c_asF, ↓w_SE_nl])
/-! ### deeds -/
def Deed.pv (d : Deed) : PV := .tup (.str d.word :: d.names.map .str)
section
variable {K : PySem.W.Frag} [Tbs K] {dk : Option Addr} {F : Addr → Prop} {H : Hp}
end
section
variable (K : PySem.W.Frag) [Tbs K]
end
/-! ### a wood and further names -/
section
variable {K : PySem.W.Frag} [Tbs K]
/-! ### the names of a row -/
end
structure CfT (K : PySem.W.Frag) [Tbs K] (A_TwigError A_Stopped : Addr) : Prop where
  ss : PySem.W.exmOne K (.ref A_Stopped) (.ref A_Stopped) = some true
end Tw
set_option Elab.async false
set_option linter.all false
set_option maxRecDepth 100000
set_option maxHeartbeats 4000000
/-! plain layer: own dicts -/
namespace Tw
open PySem PySem.Spec PyProof.Rows L2
def putP (kvs : List (Key × PV)) (k : Key) (v : PV) : List (Key × PV) :=
  if (kvs.any fun kv => decide (kv.1 = k)) = true then kvs.map (fun kv => if kv.1 = k then (kv.1, v) else kv) else kvs ++ [(k, v)]
def keyP : PV → Option Key
  | .str z => some (Sum.inr z)
  | .int i => some (Sum.inl i)
  | _ => none
section
variable {K : PySem.W.Frag} [Tbs K] {dk : Option Addr} {F F0 : Addr → Prop} {H H0 : Hp} {σ : L2.St} {ρ : Tw.Env}
theorem Rep.key {v : V} {x : PV} {k : Key} (r : Rep K dk F H v x) (e : keyP x = some k) : v = kV k := by
  cases r <;> cases e <;> rfl
theorem RepK.any (k : Key) : ∀ {vs : List (Key × V)} {xs : List (Key × PV)}, RepK K dk F H vs xs → (vs.any fun kv => decide (kv.1 = k)) = (xs.any fun kv => decide (kv.1 = k))
  | _, _, .nil => rfl
  | _, _, .cons a b => by simp only [List.any_cons, RepK.any k b]
theorem RepK.repl (k : Key) {v : V} {x : PV} (r : Rep K dk F H v x) : ∀ {vs : List (Key × V)} {xs : List (Key × PV)}, RepK K dk F H vs xs → RepK K dk F H (vs.map fun kv => if kv.1 = k then (kv.1, v) else kv) (xs.map fun kv => if kv.1 = k then (kv.1, x) else kv)
  | _, _, .nil => .nil
  | _, _, @RepK.cons _ _ _ _ k' v' x' vs xs a b => by
    simp only [List.map_cons]
    by_cases h : k' = k
    · rw [if_pos h, if_pos h]; exact .cons r (RepK.repl k r b)
    · rw [if_neg h, if_neg h]; exact .cons a (RepK.repl k r b)
theorem RepK.snoc {k : Key} {v : V} {x : PV} (r : Rep K dk F H v x) : ∀ {vs : List (Key × V)} {xs : List (Key × PV)}, RepK K dk F H vs xs → RepK K dk F H (vs ++ [(k, v)]) (xs ++ [(k, x)])
  | _, _, .nil => .cons r .nil
  | _, _, .cons a b => .cons a (RepK.snoc r b)
theorem RepK.put {k : Key} {v : V} {x : PV} {vs : List (Key × V)} {xs : List (Key × PV)} (l : RepK K dk F H vs xs) (r : Rep K dk F H v x) : RepK K dk F H (putK vs k v) (putP xs k x) := by
  unfold putK putP
  rw [l.any k]
  by_cases h : (xs.any fun kv => decide (kv.1 = k)) = true
  · rw [if_pos h, if_pos h]; exact l.repl k r
  · rw [if_neg h, if_neg h]; exact l.snoc r
theorem RepK.len {vs : List (Key × V)} {xs : List (Key × PV)} (l : RepK K dk F H vs xs) : vs.length = xs.length := by
  induction xs generalizing vs with
  | nil => cases l; rfl
  | cons x xs ih => cases l with | cons _ b => simp [ih b]
/-- a dict is laid -/
theorem PInv.laidD (I : PInv K dk F0 H0 F σ H ρ) {p : Addr} (hp : H p = none) {vs : List (Key × V)} {xs : List (Key × PV)} (r : RepK K dk F H vs xs) :
    PInv K dk F0 H0 F σ (upd H p (.dK vs)) ρ ∧ Grow K F H F (upd H p (.dK vs)) ∧ upd H p (.dK vs) p = some (.dK vs) ∧ RepK K dk F (upd H p (.dK vs)) vs xs ∧ H0 p = none ∧ ¬ F p ∧ dk ≠ some p ∧ ∀ i, ¬ OwnAt σ ρ i p := by
  obtain ⟨f1, f2⟩ := I.st.freshOf hp
  refine ⟨I.new hp, Grow.new hp, upd_same, r.mono (Grow.new hp), f1, f2, fun e => ?_, fun i h => ?_⟩
  · obtain ⟨x, y, z, q⟩ := I.st.deck p e
    rw [hp] at q; cases q
  · obtain ⟨u, q⟩ := I.ownNe h
    rw [hp] at q; cases q
end
/-- a text added to a written one -/
def TxE.cat (pre : Str) (i : Nat) : TxE where
  rd := tOp rAddStr (tC (.str pre)) (tVar i)
  wp := fun ρ P => ∃ z, ρ[i]? = some (Sl.val (PV.str z)) ∧ pre.length + z.length ≤ sizeLine ∧ P (pre ++ z)
  ok := by
    intro σ H ρ P Q hs ⟨z, hz, l3, h⟩ q
    exact ⟨.str z, hs i z hz, pre, z, rfl, rfl, l3, q _ h⟩
namespace SS
variable {K : PySem.W.Frag} [Tbs K]
end SS
namespace SE
variable {K : PySem.W.Frag} [Tbs K]
/-- d[k] of a dict -/
def dget (a b : SE K) : SE K where
  rd := fun E => tDGet (a.rd E) (b.rd E)
  wp := fun PE ρ P => a.wp PE ρ fun x ρ1 => ∃ kvs, x = .dic kvs ∧ b.wp PE ρ1 fun y ρ2 => ∃ kk x, keyP y = some kk ∧ valP kvs kk = some x ∧ P x ρ2
  ok := by
    intro dk F0 H0 F σ H ρ E PE P Q I e h q
    refine a.ok I e h fun v H1 F1 x ρ1 g1 I1 r1 h1 => ?_
    obtain ⟨kvs, rfl, h1⟩ := h1
    cases r1 with
    | @dic p vs _ f s r =>
      refine b.ok I1 (e.grow g1) h1 fun y H2 F2 yp ρ2 g2 I2 r2 h2 => ?_
      obtain ⟨kk, x, hk, hv, h3⟩ := h2
      have ey := r2.key hk
      have rk := RepK.mono g2 r
      have s3 := g2.keep _ _ f s
      rcases RepK.val kk rk with ⟨e1, e2⟩ | ⟨v, x', e1, e2, rv⟩
      · rw [e2] at hv; cases hv
      · rw [e2] at hv; cases hv
        exact ⟨p, v, rfl, .inl ⟨vs, kk, Rd.of s3, ey, e1.symm⟩, q _ _ _ _ _ (g1.trans g2) I2 rv h3⟩
/-- k in d, k not in d -/
def din (neg : Bool) (a b : SE K) : SE K where
  rd := fun E => if neg = true then tDNotIn (a.rd E) (b.rd E) else tDIn (a.rd E) (b.rd E)
  wp := fun PE ρ P => a.wp PE ρ fun y ρ1 => b.wp PE ρ1 fun x ρ2 => ∃ kk kvs, keyP y = some kk ∧ x = .dic kvs ∧ P (.bl (neg != (valP kvs kk).isSome)) ρ2
  ok := by
    intro dk F0 H0 F σ H ρ E PE P Q I e h q
    have key : a.rd E σ H fun y H1 => b.rd E σ H1 fun x H2 => ∃ p o, x = .ref p ∧ DGet H2 p y o ∧ Q (.bl (neg != o.isSome)) H2 := by
      refine a.ok I e h fun y H1 F1 yp ρ1 g1 I1 r1 h1 => ?_
      refine b.ok I1 (e.grow g1) h1 fun v H2 F2 x ρ2 g2 I2 r2 h2 => ?_
      obtain ⟨kk, kvs, hk, rfl, h3⟩ := h2
      have ey := r1.key hk
      cases r2 with
      | @dic p vs _ f s r =>
        rcases RepK.val kk r with ⟨e1, e2⟩ | ⟨v, x', e1, e2, rv⟩
        · rw [e2] at h3
          exact ⟨p, none, rfl, .inl ⟨vs, kk, Rd.of s, ey, e1.symm⟩, q _ _ _ _ _ (g1.trans g2) I2 (.bl _) h3⟩
        · rw [e2] at h3
          exact ⟨p, some v, rfl, .inl ⟨vs, kk, Rd.of s, ey, e1.symm⟩, q _ _ _ _ _ (g1.trans g2) I2 (.bl _) h3⟩
    have e0 : ∀ b : Bool, (false != b) = b := fun b => by cases b <;> rfl
    have e1 : ∀ b : Bool, (true != b) = !b := fun b => by cases b <;> rfl
    cases neg
    · simp only [e0] at key; exact key
    · simp only [e1] at key; exact key
end SE
section
variable {K : PySem.W.Frag} [Tbs K] {PE : PEK} {PD : PEnds} {ρ : Tw.Env} {Q : PV → Tw.Env → Prop} {i : Nat} {a b c : SE K}
theorem w_SE_dget : (SE.dget a b).wp PE ρ Q = (a.wp PE ρ fun x ρ1 => ∃ kvs, x = .dic kvs ∧ b.wp PE ρ1 fun y ρ2 => ∃ kk x, keyP y = some kk ∧ valP kvs kk = some x ∧ Q x ρ2) := rfl
theorem w_SE_din {neg : Bool} : (SE.din neg a b).wp PE ρ Q = (a.wp PE ρ fun y ρ1 => b.wp PE ρ1 fun x ρ2 => ∃ kk kvs, keyP y = some kk ∧ x = .dic kvs ∧ Q (.bl (neg != (valP kvs kk).isSome)) ρ2) := rfl
end
end Tw
set_option Elab.async false
set_option linter.all false
set_option maxRecDepth 100000
set_option maxHeartbeats 4000000
/-! law k12: blocks go whole: moves -/
namespace Tw
open PySem PySem.Spec PyProof.Rows L2 TL
local macro_rules | `(tactic| walk_at "wp") => `(tactic| try simp (config := { maxSteps := 1000000 }) only [↓w_SE_var, ↓w_SE_non, ↓w_SE_bl, ↓w_SE_int, ↓w_SE_str, ↓w_SE_op, ↓w_SE_un, ↓w_SE_cb, ↓w_SE_tup, ↓w_SE_lst, ↓w_SE_ifE, ↓w_SE_isN, ↓w_SE_notN, ↓w_SA_nil, ↓w_SA_cons, ↓w_ST_not, ↓w_ST_and, ↓w_ST_or, ↓w_ST_yes, ↓w_ST_tru, ↓w_SG_name, ↓w_SS_next, ↓w_SS_brk, ↓w_SS_cont, ↓w_SS_never, ↓w_SS_seq, ↓w_SS_cut, ↓w_SS_asg, ↓w_SS_drop, ↓w_SS_ret, ↓w_SS_retN, ↓w_SS_ifS, ↓w_SS_for_, ↓w_SS_while_, ↓w_SN_lst, ↓w_SE_nl, ↓w_SS_own, ↓w_SN_lc, ↓w_SE_call, ↓w_SE_callS, ↓w_SE_pop, ↓w_SP__no, ↓w_SS_raise0, ↓w_SS_raise1, ↓w_SS_raise2, ↓w_SS_tryO, ↓w_SS_tryA, ↓w_SS_tryM, ↓w_SE_xf, ↓w_SE_isE, ↓w_SE_popAt, ↓w_SN_slO, ↓w_SN_sortedS, ↓w_SN_sortedI, ↓w_SS_asg2, ↓w_SS_par, ↓w_SE_joined, ↓w_SE_join, ↓w_SE_txtB, ↓w_SE_lenSetT, ↓w_SE_chain, ↓w_SO_inSign, ↓w_SO_eqE, ↓w_SB_all_, ↓w_SB_repr, ↓c_i0, ↓c_c0, ↓c_iC, ↓c_addS, ↓c_repS, ↓c_catT, ↓c_ixS, ↓c_ixT, ↓c_ixL, ↓c_eq_ii, ↓c_eq_ss, ↓c_eq_ns, ↓c_eq_sn, ↓c_eq_bb, ↓c_eq_nn, ↓c_eq_ni, ↓c_eq_in, ↓c_ne_ii, ↓c_ne_ss, ↓c_ne_bb, ↓c_ne_ns, ↓c_ne_sn, ↓c_ne_nn, ↓c_ne_ni, ↓c_ne_in, ↓c_inST, ↓c_inSL, ↓c_lenS, ↓c_lenQt, ↓c_lenQl, ↓c_abs, ↓c_int1i, ↓c_int1b, ↓c_tupl, ↓c_tupt, ↓c_max2, ↓c_min2, ↓c_neg, ↓c_tst, ↓c_asI, ↓c_asS, ↓c_asT, ↓c_asL, ↓c_asQl, ↓c_asQt, ↓o_tt, ↓o_ts, ↓o_tl, ↓o_ti, ↓o_st, ↓o_ss, ↓o_sl_, ↓o_si, ↓o_lt, ↓o_ls, ↓o_ll, ↓o_li, ↓o_it, ↓o_is, ↓o_il, ↓o_ii, ↓o_bt, ↓o_bs, ↓o_bl_, ↓o_bi, ↓o_nt, ↓o_ns, ↓o_nl, ↓o_ni, ↓o_dt, ↓o_ds, ↓o_dl, ↓o_di, ↓v_test, ↓v_b, ↓v_andV, ↓v_orV, ↓v_notV, ↓v_isi, ↓v_at, ↓v_slS, ↓v_slT, ↓v_slL, ↓v_listOf, ↓v_revL, ↓v_revT, ↓v_cat, ↓v_rep, ↓v_ilist, ↓v_itup, ↓v_istr, ↓v_enumL, ↓v_enumT, ↓v_rng1, ↓v_rng2, ↓c_rng1, ↓c_rng2, ↓v_zipA, ↓c_zipt, ↓c_zipl, ↓v_gtup, ↓c_unp, ↓v_gunl, ↓c_unpL, ↓v_fmt, ↓c_fmts, ↓c_fmti, ↓v_js, ↓v_lenO, ↓v_tupO, ↓v_listO, ↓v_truO, ↓v_eqEO, ↓v_append, ↓v_ixO, ↓v_extendT, ↓v_extendL, ↓v_insert, ↓v_setL, ↓v_inO, ↓v_v0, ↓v_v0o, ↓v_v0d, ↓v_vs, ↓v_o0, ↓v_os, ↓v_d0, ↓v_ds, tr_non, tr_bl, tr_int, tr_str, tr_tup, tr_lst, tr_dic, in_non, in_bl, in_int, in_str, in_tup, in_lst, in_dic, we_nil, we_cons, sl_name, sl_tup, sl_unl, sa_nil, sa_cons, pr_val, pr_own, st_app, st_nil, js_nil, ↓w_for0, ↓w_for1, List.getElem?_cons_zero, List.getElem?_cons_succ, List.set_cons_zero, List.set_cons_succ, List.length_cons, List.length_nil, List.replicate_succ, List.replicate_zero, if_true, Bool.not_true, Bool.not_false, Bool.false_eq_true, if_false, ite_true, ite_false, decide_true, decide_false, Nat.reduceSub, Nat.reduceAdd, Nat.zero_add, true_and, and_true, ↓w_SE_tupF, ↓w_SE_slF, ↓w_SE_tupleF, ↓w_SE_idxF, ↓c_catF, ↓c_inF, ↓c_ixF, ↓c_lenF, ↓w_SI_frt, ↓c_asF, ↓w_SE_nl])
local macro_rules | `(tactic| walk_at "wq") => `(tactic| try simp (config := { maxSteps := 1000000 }) only [↓w_SE_var, ↓w_SE_non, ↓w_SE_bl, ↓w_SE_int, ↓w_SE_str, ↓w_SE_op, ↓w_SE_un, ↓w_SE_cb, ↓w_SE_tup, ↓w_SE_lst, ↓w_SE_ifE, ↓w_SE_isN, ↓w_SE_notN, ↓w_SA_nil, ↓w_SA_cons, ↓w_ST_not, ↓w_ST_and, ↓w_ST_or, ↓w_ST_yes, ↓w_ST_tru, ↓w_SG_name, ↓w_SS_next, ↓w_SS_brk, ↓w_SS_cont, ↓w_SS_never, ↓w_SS_seq, ↓w_SS_cut, ↓w_SS_asg, ↓w_SS_drop, ↓w_SS_ret, ↓w_SS_retN, ↓w_SS_ifS, ↓w_SS_for_, ↓w_SS_while_, ↓w_SN_lst, ↓w_SE_nl, ↓w_SS_own, ↓w_SN_lc, ↓w_SE_call, ↓w_SE_callS, ↓w_SE_pop, ↓w_SP__no, ↓w_SS_raise0, ↓w_SS_raise1, ↓w_SS_raise2, ↓w_SS_tryO, ↓w_SS_tryA, ↓w_SS_tryM, ↓w_SE_xf, ↓w_SE_isE, ↓w_SE_popAt, ↓w_SN_slO, ↓w_SN_sortedS, ↓w_SN_sortedI, ↓w_SS_asg2, ↓w_SS_par, ↓w_SE_joined, ↓w_SE_join, ↓w_SE_txtB, ↓w_SE_lenSetT, ↓w_SE_chain, ↓w_SO_inSign, ↓w_SO_eqE, ↓w_SB_all_, ↓w_SB_repr, ↓c_i0, ↓c_c0, ↓c_iC, ↓c_addS, ↓c_repS, ↓c_catT, ↓c_ixS, ↓c_ixT, ↓c_ixL, ↓c_eq_ii, ↓c_eq_ss, ↓c_eq_ns, ↓c_eq_sn, ↓c_eq_bb, ↓c_eq_nn, ↓c_eq_ni, ↓c_eq_in, ↓c_ne_ii, ↓c_ne_ss, ↓c_ne_bb, ↓c_ne_ns, ↓c_ne_sn, ↓c_ne_nn, ↓c_ne_ni, ↓c_ne_in, ↓c_inST, ↓c_inSL, ↓c_lenS, ↓c_lenQt, ↓c_lenQl, ↓c_abs, ↓c_int1i, ↓c_int1b, ↓c_tupl, ↓c_tupt, ↓c_max2, ↓c_min2, ↓c_neg, ↓c_tst, ↓c_asI, ↓c_asS, ↓c_asT, ↓c_asL, ↓c_asQl, ↓c_asQt, ↓o_tt, ↓o_ts, ↓o_tl, ↓o_ti, ↓o_st, ↓o_ss, ↓o_sl_, ↓o_si, ↓o_lt, ↓o_ls, ↓o_ll, ↓o_li, ↓o_it, ↓o_is, ↓o_il, ↓o_ii, ↓o_bt, ↓o_bs, ↓o_bl_, ↓o_bi, ↓o_nt, ↓o_ns, ↓o_nl, ↓o_ni, ↓o_dt, ↓o_ds, ↓o_dl, ↓o_di, ↓v_test, ↓v_b, ↓v_andV, ↓v_orV, ↓v_notV, ↓v_isi, ↓v_at, ↓v_slS, ↓v_slT, ↓v_slL, ↓v_listOf, ↓v_revL, ↓v_revT, ↓v_cat, ↓v_rep, ↓v_ilist, ↓v_itup, ↓v_istr, ↓v_enumL, ↓v_enumT, ↓v_rng1, ↓v_rng2, ↓c_rng1, ↓c_rng2, ↓v_zipA, ↓c_zipt, ↓c_zipl, ↓v_gtup, ↓c_unp, ↓v_gunl, ↓c_unpL, ↓v_fmt, ↓c_fmts, ↓c_fmti, ↓v_js, ↓v_lenO, ↓v_tupO, ↓v_listO, ↓v_truO, ↓v_eqEO, ↓v_append, ↓v_ixO, ↓v_extendT, ↓v_extendL, ↓v_insert, ↓v_setL, ↓v_inO, ↓v_v0, ↓v_v0o, ↓v_v0d, ↓v_vs, ↓v_o0, ↓v_os, ↓v_d0, ↓v_ds, tr_non, tr_bl, tr_int, tr_str, tr_tup, tr_lst, tr_dic, in_non, in_bl, in_int, in_str, in_tup, in_lst, in_dic, we_nil, we_cons, sl_name, sl_tup, sl_unl, sa_nil, sa_cons, pr_val, pr_own, st_app, st_nil, js_nil, List.getElem?_cons_zero, List.getElem?_cons_succ, List.set_cons_zero, List.set_cons_succ, List.length_cons, List.length_nil, List.replicate_succ, List.replicate_zero, if_true, Bool.not_true, Bool.not_false, Bool.false_eq_true, if_false, ite_true, ite_false, decide_true, decide_false, Nat.reduceSub, Nat.reduceAdd, Nat.zero_add, true_and, and_true, ↓w_SE_tupF, ↓w_SE_slF, ↓w_SE_tupleF, ↓w_SE_idxF, ↓c_catF, ↓c_inF, ↓c_ixF, ↓c_lenF, ↓w_SI_frt, ↓c_asF, ↓w_SE_nl, ↓w_SO_eqE])
/-! ### rows that are shown, held against one another -/
theorem ShO.frt {xs : List PV} {dep wt : Nat} (h : ∀ x ∈ xs, ShO x dep wt) : ShO (.frt xs) (dep + 1) ((wt + 1) * xs.length) := by
  obtain ⟨a1, a2, a3, a4, a5, a6⟩ := ShO.all h
  exact ⟨a1, by simp only [PV.pd, PyData.canLay0]; exact a2, by simp only [PV.pd, PyData.showable]; exact a3, by simp only [PV.pd, PyData.intsShort]; exact a4, by simp only [PV.pd, PyData.depth]; omega, by simp only [PV.pd, PyData.weight]; exact a6⟩
theorem ShO.lst {xs : List PV} {dep wt : Nat} (h : ∀ x ∈ xs, ShO x dep wt) : ShO (.lst xs) (dep + 1) ((wt + 1) * xs.length) := by
  obtain ⟨a1, a2, a3, a4, a5, a6⟩ := ShO.all h
  exact ⟨a1, by simp only [PV.pd, PyData.canLay0]; exact a2, by simp only [PV.pd, PyData.showable]; exact a3, by simp only [PV.pd, PyData.intsShort]; exact a4, by simp only [PV.pd, PyData.depth]; omega, by simp only [PV.pd, PyData.weight]; exact a6⟩
section
variable {K : PySem.W.Frag} [Tbs K]
end
/-- two names of a wood -/
structure Two (f : Fo) (a b : Str) : Prop where
  nd : f.nm.Nodup
  nms : ∀ z ∈ f.nm, IsName z
  len : f.nm.length ≤ 900
  ha : a ∈ f.nm
  hb : b ∈ f.nm
  out : aroundL f.row a b = false
section
variable {K : PySem.W.Frag} [Tbs K]
/-! ### on a row -/
section
variable {f : Fo} {a b : Str} {x m y : List En}
end
/-! ### the moves -/
theorem Two.dd {f : Fo} {a b w : Str} (T : Two f a b) (hw : w ∈ words13) : DOk (w, a, b) := ⟨hw, T.nms a T.ha, fun _ => T.nms b T.hb, by show b.length ≤ 1000; have := (T.nms b T.hb).eight; omega⟩
/-! ### the other deeds -/
end
end Tw
set_option Elab.async false
set_option linter.all false
set_option maxRecDepth 100000
set_option maxHeartbeats 4000000
/-! == and != of what is 280 deep; xs.index(x); what a node lies in -/
namespace Tw
open PySem PySem.Spec PyProof.Rows L2
section
variable {X : Cx} {k : Nat}
/-- xs.index(x), xs a list of texts -/
def rIndexL (K : PySem.W.Frag) [Tbs K] : V → List V → Hp → VK → Prop := fun x vs H Q => ∃ (l : Addr) (z : Str) (zs : List Str), x = .ref l ∧ vs = [.str z] ∧ H l = some (.lst (zs.map V.str)) ∧ z ∈ zs ∧ Q (.int (zs.idxOf z : Nat)) H
end
namespace SO
variable {K : PySem.W.Frag} [Tbs K]
end SO
namespace SE
variable {K : PySem.W.Frag} [Tbs K]
/-- xs.index(x), xs a list of texts -/
def idxL (a b : SE K) : SE K where
  rd := fun E => tBM K "list" (rIndexL K) (a.rd E) (tCons (b.rd E) tNil)
  wp := fun PE ρ P => a.wp PE ρ fun x ρ1 => ∃ zs : List Str, x = .lst (zs.map .str) ∧ b.wp PE ρ1 fun y ρ2 => ∃ z, y = .str z ∧ z ∈ zs ∧ P (.int (zs.idxOf z : Nat)) ρ2
  ok := by
    intro dk F0 H0 F σ H ρ E PE P Q I e h q
    refine a.ok I e h fun v H1 F1 x ρ1 g1 I1 r1 h1 => ?_
    obtain ⟨zs, rfl, h1⟩ := h1
    obtain ⟨l, rfl, fl, hl⟩ := rep_sL r1
    refine ⟨.inl ⟨rfl, _, SqL.of hl⟩, ?_⟩
    refine b.ok I1 (e.grow g1) h1 fun w H2 F2 y ρ2 g2 I2 r2 h2 => ?_
    obtain ⟨z, rfl, hz, h2⟩ := h2
    cases r2
    exact ⟨l, z, zs, rfl, rfl, g2.keep _ _ fl hl, hz, q _ _ _ _ _ (g1.trans g2) I2 (.int _) h2⟩
end SE
section
variable {K : PySem.W.Frag} [Tbs K] {PE : PEK} {ρ : Env} {Q : PV → Env → Prop} {P : PV → Prop} {a b : SE K}
theorem w_SE_idxL : (SE.idxL a b).wp PE ρ Q = (a.wp PE ρ fun x ρ1 => ∃ zs : List Str, x = .lst (zs.map .str) ∧ b.wp PE ρ1 fun y ρ2 => ∃ z, y = .str z ∧ z ∈ zs ∧ Q (.int (zs.idxOf z : Nat)) ρ2) := rfl
end
/-! ### children, by parent -/
section
variable {K : PySem.W.Frag} [Tbs K]
theorem strs_rep {dk : Option Addr} {F : Addr → Prop} {H : Hp} : ∀ zs : List Str, RepL K dk F H (zs.map V.str) (zs.map PV.str)
  | [] => .nil
  | z :: zs => .cons (.str z) (strs_rep zs)
local macro_rules | `(tactic| walk_at "rd") => `(tactic| try simp only [o_op, o_un, o_var, o_c, o_cb, o_call, o_cons, o_nil, o_tup, o_lst, o_I0, o_I, o_int1, o_intb, o_abs, o_test, o_b, o_not, o_and, o_or, o_andV, o_orV, o_notV, o_ifE, o_isN, o_notN, o_eq, o_ne, o_seq, o_next, o_asg, o_name, o_sub, o_par, o_par3, o_drop, o_ret, o_retN, o_ifS, o_sl, o_noPart, o_part, o_bm, o_bm0, o_m0, o_m1, o_dget, o_dput, o_din, o_dnotin, o_listKeys, e_bl, e_int, e_str, e_some, e_two, e_three, o_for, o_lc, o_iList, o_iTup, o_iRng1, e_int1, e_ref, o_yes, o_wipe0, o_wipe1, o_disp, o_dnew, o_pairs0, o_pairs1, o_lock, o_gtup, o_gcons, o_gnil, o_rU, o_tru, o_revT, o_enumT, o_from, true_and, if_pos, List.getElem?_cons_zero, List.getElem?_cons_succ, List.set_cons_zero, List.set_cons_succ, List.append_nil])
/-! ### the node around a node -/
end
end Tw
set_option Elab.async false
set_option linter.all false
set_option maxRecDepth 100000
set_option maxHeartbeats 4000000
/-! deeds undone by deeds, on rows -/
namespace Tw
open PySem PySem.Spec PyProof.Rows L2
theorem at_mk {f : Fo} {n : Str} {x m y : List En} (nd : f.nm.Nodup) (e : f.erow = x ++ (blkE n m ++ y)) (hm : Bl m) : At f n x m y := by
  have hn := erow_nodup nd
  rw [e] at hn
  have hn0 := hn
  simp only [blkE, List.cons_append, List.append_assoc, List.nil_append, List.nodup_append, List.nodup_cons, List.mem_append, List.mem_cons, not_or] at hn
  obtain ⟨_, ⟨⟨a1, a2, a3⟩, b1, ⟨c1, _⟩, d⟩, g⟩ := hn
  exact ⟨e, hm, fun z => g _ z _ (.inl rfl) rfl, fun z => g _ z _ (.inr (.inr (.inl rfl))) rfl, a1, fun z => d _ z _ (.inl rfl) rfl, a3, c1, hn0⟩
/-- a wood of a row of its ends -/
theorem erow_of {g : Fo} {es : List En} (h : g.row = es.map en) : g.erow = es := by
  rw [Fo.row_erow] at h
  exact map_inj (fun a b => en_injQ) h
theorem At.uniq {f : Fo} {n : Str} {x m y x' m' y' : List En} (h : At f n x m y) (g : At f n x' m' y') : x = x' ∧ m = m' ∧ y = y' := by
  have l1 : x.length = x'.length := by rw [← h.ib, ← g.ib]
  have l2 : m.length = m'.length := by have a := h.ie; have b := g.ie; omega
  have e := h.row.symm.trans g.row
  obtain ⟨e1, e2⟩ := List.append_inj e l1
  obtain ⟨e3, e4⟩ := List.append_inj e2 (by rw [blk_len, blk_len, l2])
  refine ⟨e1, ?_, e4⟩
  unfold blkE at e3
  exact (List.append_inj (List.cons.inj e3).2 l2).1
/-! ### a move, and back -/
section
variable {f : Fo} {a b w : Str} {x m y : List En}
/-- the wood behind a move of a: the rest stays as it is -/
theorem At.moved_at (A : At f a x m y) {g : Fo} {p : Nat} (nd : g.nm.Nodup) (h : g.row = (insE (x ++ y) p (blkE a m)).map en) : At g a ((x ++ y).take p) m ((x ++ y).drop p) := at_mk nd (erow_of h) A.bal
theorem move_stop (hw : w ∈ moves6) (ha : a ∈ f.nm) (hb : w ∉ ones → b ∈ f.nm ∧ aroundL f.row a b = false) : stopL f.row w a b = none := by
  have i1 := bg_mem.mpr ha
  unfold stopL
  by_cases h1 : w ∈ ones
  · rw [if_pos h1, if_pos i1]
  · obtain ⟨hb1, hb2⟩ := hb h1
    have i2 := bg_mem.mpr hb1
    have h2 : w ≠ "wrap" ∧ w ≠ "put" ∧ w ≠ "swap" := by
      simp only [moves6, List.mem_cons, List.not_mem_nil, or_false] at hw
      rcases hw with rfl | rfl | rfl | rfl | rfl | rfl <;> decide
    rw [if_neg h1, if_neg h2.1, if_neg h2.2.1, if_neg (fun z => z.elim (fun z => z i1) fun z => z i2), if_neg h2.2.2]
    split
    · rfl
    · rw [hb2]; rfl
theorem At.moveRow (A : At f a x m y) (hw : w ∈ moves6) (hb : w ∉ ones → b ∈ f.nm ∧ aroundL f.row a b = false) : behindL f.row w a b = (insE (x ++ y) (goalE w b (x ++ y)) (blkE a m)).map en := by
  have h2 : w ≠ "swap" ∧ w ≠ "turn" ∧ w ≠ "lift" ∧ w ≠ "put" ∧ w ≠ "cut" ∧ w ≠ "wrap" ∧ w ≠ "pour" := by
    simp only [moves6, List.mem_cons, List.not_mem_nil, or_false] at hw
    rcases hw with rfl | rfl | rfl | rfl | rfl | rfl <;> decide
  obtain ⟨c1, c2, c3, c4, c5, c6, c7⟩ := h2
  unfold behindL
  rw [if_neg c1, if_neg c2, if_neg c3, if_neg c4, if_neg c5, if_neg c6, if_neg c7]
  refine A.moved hw fun k1 k2 => ?_
  have h1 : w ∉ ones := fun z => by
    rw [ones_iff] at z
    rcases z with z | z | z | z
    · exact k1 z
    · exact k2 z
    · exact c3 z
    · exact c5 z
  obtain ⟨hb1, hb2⟩ := hb h1
  exact ⟨hb1, A.out_of hb1 hb2⟩
/-- what holds of b in f holds behind a move of a -/
theorem At.still (A : At f a x m y) {g : Fo} {p : Nat} (nd : g.nm.Nodup) (h : g.row = (insE (x ++ y) p (blkE a m)).map en) (hb : b ∈ f.nm ∧ aroundL f.row a b = false) : b ∈ g.nm ∧ aroundL g.row a b = false := by
  have G := A.moved_at nd h
  have hp : g.erow.Perm f.erow := by rw [erow_of h]; exact (insE_perm _ _ _).trans A.perm.symm
  have hbg : b ∈ g.nm := by
    rw [← pls_row]; rw [(pls_perm hp).mem_iff, pls_row]; exact hb.1
  refine ⟨hbg, ?_⟩
  obtain ⟨n1, n2, n3⟩ := A.out_of hb.1 hb.2
  cases hr : aroundL g.row a b with
  | false => rfl
  | true =>
    rcases (G.around hbg).mp hr with z | z
    · exact absurd z n1
    · exact absurd z n2
/-- a second move of a -/
theorem At.again (A : At f a x m y) {g : Fo} {p : Nat} (nd : g.nm.Nodup) (h : g.row = (insE (x ++ y) p (blkE a m)).map en) (hw : w ∈ moves6) (hb : w ∉ ones → b ∈ f.nm ∧ aroundL f.row a b = false) :
    stopL g.row w a b = none ∧ behindL g.row w a b = (insE (x ++ y) (goalE w b (x ++ y)) (blkE a m)).map en := by
  have G := A.moved_at nd h
  have hb2 : w ∉ ones → b ∈ g.nm ∧ aroundL g.row a b = false := fun z => A.still nd h (hb z)
  refine ⟨move_stop hw G.mem hb2, ?_⟩
  have := G.moveRow hw hb2
  rw [List.take_append_drop] at this
  exact this
/-- the way back -/
structure Back (f : Fo) (w a b : Str) : Prop where
  word : w ∈ moves6
  two : w ∉ ones → b ∈ f.nm ∧ aroundL f.row a b = false
  goal : ∀ {x m y}, At f a x m y → goalE w b (x ++ y) = x.length
theorem At.back (A : At f a x m y) {g : Fo} {p : Nat} (nd : g.nm.Nodup) (h : g.row = (insE (x ++ y) p (blkE a m)).map en) (k : Back f w a b) : stopL g.row w a b = none ∧ behindL g.row w a b = f.row := by
  obtain ⟨h1, h2⟩ := A.again nd h k.word k.two
  refine ⟨h1, ?_⟩
  rw [h2, k.goal A, Fo.row_erow, A.row]
  unfold insE
  rw [List.take_left, List.drop_left]
end
/-! ### where a node lies -/
theorem rep_at {g : Str → List Str} : ∀ {f : Fo}, f.Rep g → ∀ q ∈ f.nm, ∃ u ks v, f.erow = u ++ ((true, q) :: (Fo.erow ks ++ ((false, q) :: v))) ∧ g q = ks.tops
  | .cons n ks r, h, q, hq => by
    obtain ⟨h1, h2, h3⟩ := h
    rcases List.mem_cons.mp hq with e | hq
    · subst e
      exact ⟨[], ks, r.erow, by simp [Fo.erow], h1⟩
    · rcases List.mem_append.mp hq with hq | hq
      · obtain ⟨u, ks', v, e1, e2⟩ := rep_at h2 q hq
        exact ⟨(true, n) :: u, ks', v ++ (false, n) :: r.erow, by simp [Fo.erow, e1], e2⟩
      · obtain ⟨u, ks', v, e1, e2⟩ := rep_at h3 q hq
        exact ⟨(true, n) :: (ks.erow ++ (false, n) :: u), ks', v, by simp [Fo.erow, e1], e2⟩
theorem At.before {f : Fo} {a b : Str} {x m y : List En} (A : At f a x m y) (h : (true, b) ∈ x) : b ∈ f.nm ∧ aroundL f.row a b = false := by
  have hb : b ∈ f.nm := erow_nm f (true, b) (by rw [A.row]; exact List.mem_append_left _ h)
  refine ⟨hb, ?_⟩
  cases hr : aroundL f.row a b with
  | false => rfl
  | true =>
    rcases (A.around hb).mp hr with z | z
    · subst z; exact absurd h A.outB
    · have nd := A.nd
      rw [List.nodup_append] at nd
      exact absurd rfl (nd.2.2 _ h _ (by simp [blkE, z]))
/-! ### the others -/
end Tw
set_option Elab.async false
set_option linter.all false
set_option maxRecDepth 100000
set_option maxHeartbeats 4000000
/-! x is not True; a table of numbers; menus, mixed lists, names of a law -/
namespace Tw
open PySem PySem.Spec PyProof.Rows L2
/-! ### a table of numbers -/
structure FormsI (K : PySem.W.Frag) (w : World) (F : Addr) (l : List (Str × Int)) : Prop where
  dict : ∃ es n, KDict K w F es n
  at_ : ∀ q ∈ l, ∃ u, PySem.W.nsIn K F q.1 = some (some u) ∧ RelV (.int q.2) u
  no : ∀ z, z ∉ l.map (·.1) → PySem.W.nsIn K F z = some none
theorem FormsI.dct {K : PySem.W.Frag} {w : World} {F : Addr} {l : List (Str × Int)} (h : FormsI K w F l) {q : Str × Int} (hq : q ∈ l) : KDct K w F q.1 (.int q.2) := by
  obtain ⟨es, n, D⟩ := h.dict
  obtain ⟨u, e, r⟩ := h.at_ q hq
  exact ⟨es, n, u, D.at_, D.lit, e, r⟩
abbrev rInI (b : Bool) (F : Addr) (l : List (Str × Int)) : R2 := fun x y H Q => ∃ z : Str, x = .str z ∧ y = .ref F ∧ Q (.bl (b != decide (z ∈ l.map (·.1)))) H
section
variable {X : Cx} {F : Addr} {l : List (Str × Int)}
theorem FormsI.has {K : PySem.W.Frag} {w : World} (h : FormsI K w F l) (z : Str) : ∃ r, PySem.W.nsIn K F z = some r ∧ r.isSome = decide (z ∈ l.map (·.1)) := by
  by_cases hz : z ∈ l.map (·.1)
  · obtain ⟨q, hq, e⟩ := List.mem_map.mp hz
    obtain ⟨u, e1, _⟩ := h.at_ q hq
    refine ⟨some u, by rw [← e]; exact e1, by simp only [Option.isSome_some]; exact (decide_eq_true hz).symm⟩
  · exact ⟨none, h.no z hz, by simp only [Option.isSome_none]; exact (decide_eq_false hz).symm⟩
end
namespace SE
variable {K : PySem.W.Frag} [Tbs K]
/-- TABLE[x], a table of numbers written in the program -/
def tabIxI (w : World) (D : Addr) (l : List (Str × Int)) (hf : FormsI K w D l) (a : SE K) : SE K where
  rd := fun E => tOp (rIxD K w) (tC (.ref D)) (a.rd E)
  wp := fun PE ρ P => a.wp PE ρ fun x ρ1 => ∃ q : Str × Int, q ∈ l ∧ x = .str q.1 ∧ P (.int q.2) ρ1
  ok := by
    intro dk F0 H0 F σ H ρ E PE P Q I e h q
    show tOp (rIxD K w) (tC (.ref D)) (a.rd E) σ H Q
    refine a.ok I e h fun v H1 F1 x ρ1 g1 I1 r1 h1 => ?_
    obtain ⟨p, hp, rfl, h1⟩ := h1
    cases r1
    exact ⟨D, p.1, .int p.2, rfl, rfl, hf.dct hp, q _ _ _ _ _ g1 I1 (.int _) h1⟩
/-- x in TABLE, x not in TABLE -/
def inTabI (neg : Bool) (D : Addr) (l : List (Str × Int)) (a : SE K) : SE K where
  rd := fun E => tOp (rInI neg D l) (a.rd E) (tC (.ref D))
  wp := fun PE ρ P => a.wp PE ρ fun x ρ1 => ∃ z : Str, x = .str z ∧ P (.bl (neg != decide (z ∈ l.map (·.1)))) ρ1
  ok := by
    intro dk F0 H0 F σ H ρ E PE P Q I e h q
    refine a.ok I e h fun v H1 F1 x ρ1 g1 I1 r1 h1 => ?_
    obtain ⟨z, rfl, h1⟩ := h1
    cases r1
    exact ⟨z, rfl, rfl, q _ _ _ _ _ g1 I1 (.bl _) h1⟩
end SE
namespace SO
variable {K : PySem.W.Frag} [Tbs K]
/-- x is not y, of two truth values -/
def isntB : SO K where
  rd := rNotB
  wp := fun x y P => ∃ a b : Bool, x = .bl a ∧ y = .bl b ∧ P (.bl (!decide (a = b)))
  ok := by
    rintro dk F0 H0 F σ H ρ v w x y P Q I r1 r2 ⟨a, b, rfl, rfl, h⟩ q
    cases r1; cases r2
    exact ⟨a, b, rfl, rfl, q _ _ _ _ Grow.refl I (.bl _) h⟩
end SO
section
variable {K : PySem.W.Frag} [Tbs K] {PE : PEK} {ρ : Env} {Q : PV → Env → Prop} {P : PV → Prop} {a : SE K}
theorem w_SE_tabIxI {w : World} {D : Addr} {l : List (Str × Int)} {hf : FormsI K w D l} : (SE.tabIxI w D l hf a).wp PE ρ Q = (a.wp PE ρ fun x ρ1 => ∃ q : Str × Int, q ∈ l ∧ x = .str q.1 ∧ Q (.int q.2) ρ1) := rfl
theorem w_SE_inTabI {neg : Bool} {D : Addr} {l : List (Str × Int)} : (SE.inTabI neg D l a).wp PE ρ Q = (a.wp PE ρ fun x ρ1 => ∃ z : Str, x = .str z ∧ Q (.bl (neg != decide (z ∈ l.map (·.1)))) ρ1) := rfl
theorem c_isntB {b c : Bool} : (SO.isntB : SO K).wp (.bl b) (.bl c) P = P (.bl (!decide (b = c))) := by
  apply propext; constructor
  · rintro ⟨a, d, e1, e2, h⟩
    cases e1; cases e2; exact h
  · intro h; exact ⟨b, c, rfl, rfl, h⟩
/-! ### a law's names -/
end
end Tw
set_option Elab.async false
set_option linter.all false
set_option maxRecDepth 100000
set_option maxHeartbeats 4000000
/-! a pick of anything; a wood of a tuple of names -/
namespace Tw
open PySem PySem.Spec PyProof.Rows L2 TL
local macro_rules | `(tactic| walk_at "rd") => `(tactic| try simp only [o_op, o_un, o_var, o_c, o_cb, o_call, o_cons, o_nil, o_tup, o_lst, o_I0, o_I, o_int1, o_intb, o_abs, o_test, o_b, o_not, o_and, o_or, o_andV, o_orV, o_notV, o_ifE, o_isN, o_notN, o_eq, o_ne, o_seq, o_next, o_asg, o_name, o_sub, o_par, o_par3, o_drop, o_ret, o_retN, o_ifS, o_sl, o_noPart, o_part, o_bm, o_bm0, o_m0, o_m1, o_dget, o_dput, o_din, o_dnotin, o_listKeys, e_bl, e_int, e_str, e_some, e_two, e_three, o_for, o_lc, o_iList, o_iTup, o_iRng1, e_int1, e_ref, o_yes, o_wipe0, o_wipe1, o_disp, o_dnew, o_pairs0, o_pairs1, true_and, if_pos, List.getElem?_cons_zero, List.getElem?_cons_succ, List.set_cons_zero, List.set_cons_succ, List.append_nil])
section
variable {K : PySem.W.Frag} [Tbs K]
end
section
variable (K : PySem.W.Frag) [Tbs K]
end
end Tw
set_option Elab.async false
set_option linter.all false
set_option maxRecDepth 100000
set_option maxHeartbeats 4000000
/-! where a node stands: sayings of woods, on rows and by children -/
namespace Tw
open PySem PySem.Spec PyProof.Rows L2
section
variable {K : PySem.W.Frag} [Tbs K]
end
/-! ### neighbours -/
theorem top_at2 : ∀ {f : Fo} {i : Nat} {a : Str}, f.tops[i]? = some a → ∃ u m v, f.erow = u ++ (blkE a m ++ v) ∧ Bl m ∧ Bl u ∧ (i = 0 → u = []) ∧ (i ≠ 0 → ∃ p u', u = u' ++ [(false, p)]) ∧ (f.tops[i + 1]? = none → v = []) ∧ ∀ b, f.tops[i + 1]? = some b → ∃ v', v = (true, b) :: v'
  | .nil, i, a, h => by simp [Fo.tops] at h
  | .cons n ks r, i, a, h => by
    cases i with
    | zero =>
      have e : n = a := by simpa [Fo.tops] using h
      subst e
      refine ⟨[], ks.erow, r.erow, by simp [Fo.erow, blkE], bl_row ks, Bl.nil, fun _ => rfl, fun z => absurd rfl z, fun hr => ?_, fun b hr => ?_⟩
      · cases r with
        | nil => rfl
        | cons k ks' r' => simp [Fo.tops] at hr
      · cases r with
        | nil => simp [Fo.tops] at hr
        | cons k ks' r' =>
          have e : k = b := by simpa [Fo.tops] using hr
          subst e
          exact ⟨_, rfl⟩
    | succ i =>
      have h' : r.tops[i]? = some a := by simpa [Fo.tops] using h
      obtain ⟨u, m, v, e1, e2, e3, e4, e5, e6, e7⟩ := top_at2 h'
      refine ⟨blkE n ks.erow ++ u, m, v, by simp [Fo.erow, blkE, e1], e2, (bl_blk (bl_row ks)).app e3, fun z => by omega, fun _ => ?_, fun hr => e6 (by simpa [Fo.tops] using hr), fun b hr => e7 b (by simpa [Fo.tops] using hr)⟩
      by_cases hi : i = 0
      · rw [e4 hi]
        exact ⟨n, (true, n) :: ks.erow, by simp [blkE]⟩
      · obtain ⟨p, u', hu⟩ := e5 hi
        exact ⟨p, blkE n ks.erow ++ u', by rw [hu, List.append_assoc]⟩
/-- where a node stands in the row, told by children -/
structure Stands (f : Fo) (q a : Str) (i : Nat) (x m y : List En) (st : List Str) : Prop where
  at_ : At f a x m y
  open_ : opn1 [] x = some st
  first : (∃ e x', x = x' ++ [e] ∧ e.1 = false) ↔ i ≠ 0
  first0 : i = 0 → x = [] ∨ ∃ e x', x = x' ++ [e] ∧ e.1 = true
  last : (∃ e y', y = e :: y' ∧ e.1 = true) ↔ i + 1 ≠ (gOf f q).length
  last0 : i + 1 = (gOf f q).length → y = [] ∨ ∃ e y', y = e :: y' ∧ e.1 = false
  bare : m = [] ↔ gOf f a = []
  next : ∀ b, y.take 1 = [(true, b)] ↔ (gOf f q)[i + 1]? = some b
  top : st.head? = if q = "" then none else some q
theorem opn_pre {u v : List En} (h : Bl (u ++ v)) : ∃ st, opn1 [] u = some st := by
  unfold Bl at h
  rw [opn1_app] at h
  cases e : opn1 [] u with
  | none => rw [e] at h; cases h
  | some st => exact ⟨st, rfl⟩
theorem stands {f : Fo} (ok : NameOk f) {q a : Str} {i : Nat} (hq : q = "" ∨ q ∈ f.nm) (ha : (gOf f q)[i]? = some a) : ∃ x m y st, Stands f q a i x m y st := by
  obtain ⟨x0, ks, y0, e0, eg, hx0, hy0⟩ : ∃ (x0 : List En) (ks : Fo) (y0 : List En), f.erow = x0 ++ (ks.erow ++ y0) ∧ gOf f q = ks.tops ∧ ((q = "" → x0 = []) ∧ (q ≠ "" → ∃ u, x0 = u ++ [(true, q)])) ∧ ((q = "" → y0 = []) ∧ (q ≠ "" → ∃ v, y0 = (false, q) :: v)) := by
    by_cases e : q = ""
    · refine ⟨[], f, [], by simp, by unfold gOf; rw [if_pos e], ⟨fun _ => rfl, fun z => absurd e z⟩, fun _ => rfl, fun z => absurd e z⟩
    · obtain ⟨u, ks, v, e1, e2⟩ := rep_at (gOf_rep ok) q (hq.resolve_left e)
      exact ⟨u ++ [(true, q)], ks, (false, q) :: v, by rw [e1]; simp, e2, ⟨fun z => absurd z e, fun _ => ⟨u, rfl⟩⟩, fun z => absurd z e, fun _ => ⟨v, rfl⟩⟩
  have hlen : (gOf f q).length = ks.tops.length := by rw [eg]
  rw [eg] at ha
  obtain ⟨u, m, v, e1, e2, e3, e4, e5, e6, e7⟩ := top_at2 ha
  have A : At f a (x0 ++ u) m (v ++ y0) := at_mk ok.nd (by rw [e0, e1]; simp) e2
  have hi := (List.getElem?_eq_some_iff.mp ha).1
  have hrow := bl_row f
  obtain ⟨st, hst⟩ : ∃ st, opn1 [] x0 = some st ∧ st.head? = if q = "" then none else some q := by
    by_cases e : q = ""
    · rw [hx0.1 e]
      exact ⟨[], rfl, by rw [if_pos e]; rfl⟩
    · obtain ⟨u0, hu⟩ := hx0.2 e
      rw [e0, hu, List.append_assoc] at hrow
      obtain ⟨s0, hs0⟩ := opn_pre hrow
      refine ⟨q :: s0, by rw [hu, opn1_app, hs0]; rfl, by rw [if_neg e]; rfl⟩
  obtain ⟨hst1, hst2⟩ := hst
  refine ⟨x0 ++ u, m, v ++ y0, st, A, by rw [opn1_app, hst1]; exact e3.run st, ?_, ?_, ?_, ?_, ?_, ?_, hst2⟩
  · constructor
    · rintro ⟨e, x', h1, h2⟩ h3
      rw [e4 h3, List.append_nil] at h1
      by_cases q0 : q = ""
      · rw [hx0.1 q0] at h1
        have := congrArg List.length h1
        simp at this
      · obtain ⟨u0, hu⟩ := hx0.2 q0
        rw [hu] at h1
        have := (List.append_inj' h1 rfl).2
        cases this
        cases h2
    · intro h3
      obtain ⟨p, u', hu⟩ := e5 h3
      exact ⟨(false, p), x0 ++ u', by rw [hu, List.append_assoc], rfl⟩
  · intro h3
    rw [e4 h3, List.append_nil]
    by_cases q0 : q = ""
    · exact .inl (hx0.1 q0)
    · obtain ⟨u0, hu⟩ := hx0.2 q0
      exact .inr ⟨(true, q), u0, hu, rfl⟩
  · rw [hlen]
    constructor
    · rintro ⟨e, y', h1, h2⟩ h3
      rw [e6 (List.getElem?_eq_none (by omega)), List.nil_append] at h1
      by_cases q0 : q = ""
      · rw [hy0.1 q0] at h1; cases h1
      · obtain ⟨v0, hv⟩ := hy0.2 q0
        rw [hv] at h1; cases h1; cases h2
    · intro h3
      have hlt : i + 1 < ks.tops.length := by omega
      obtain ⟨v', hv⟩ := e7 _ (List.getElem?_eq_getElem hlt)
      exact ⟨_, v' ++ y0, by rw [hv]; rfl, rfl⟩
  · rw [hlen]
    intro h3
    rw [e6 (List.getElem?_eq_none (by omega)), List.nil_append]
    by_cases q0 : q = ""
    · exact .inl (hy0.1 q0)
    · obtain ⟨v0, hv⟩ := hy0.2 q0
      exact .inr ⟨_, v0, hv, rfl⟩
  · obtain ⟨u1, ka, v1, f1, f2⟩ := rep_at (gOf_rep ok) a A.mem
    have B : At f a u1 ka.erow v1 := at_mk ok.nd (by rw [f1]; simp [blkE]) (bl_row ka)
    obtain ⟨_, em, _⟩ := A.uniq B
    rw [em, f2]
    cases ka with
    | nil => simp [Fo.erow, Fo.tops]
    | cons n k r => simp [Fo.erow, Fo.tops]
  · intro b
    rw [eg]
    cases hn : ks.tops[i + 1]? with
    | none =>
      rw [e6 hn, List.nil_append]
      constructor
      · intro h
        by_cases q0 : q = ""
        · rw [hy0.1 q0] at h; cases h
        · obtain ⟨v0, hv⟩ := hy0.2 q0
          rw [hv] at h; cases h
      · intro h; cases h
    | some c =>
      obtain ⟨v', hv⟩ := e7 c hn
      rw [hv]
      constructor
      · intro h; cases h; rfl
      · intro h; cases h; rfl
end Tw
set_option Elab.async false
set_option linter.all false
set_option maxRecDepth 100000
set_option maxHeartbeats 4000000
/-! law k56: sayings of woods -/
namespace Tw
open PySem PySem.Spec PyProof.Rows L2 TL
local macro_rules | `(tactic| walk_at "wp") => `(tactic| try simp (config := { maxSteps := 1000000 }) only [↓w_SE_var, ↓w_SE_non, ↓w_SE_bl, ↓w_SE_int, ↓w_SE_str, ↓w_SE_op, ↓w_SE_un, ↓w_SE_cb, ↓w_SE_tup, ↓w_SE_lst, ↓w_SE_ifE, ↓w_SE_isN, ↓w_SE_notN, ↓w_SA_nil, ↓w_SA_cons, ↓w_ST_not, ↓w_ST_and, ↓w_ST_or, ↓w_ST_yes, ↓w_ST_tru, ↓w_SG_name, ↓w_SS_next, ↓w_SS_brk, ↓w_SS_cont, ↓w_SS_never, ↓w_SS_seq, ↓w_SS_cut, ↓w_SS_asg, ↓w_SS_drop, ↓w_SS_ret, ↓w_SS_retN, ↓w_SS_ifS, ↓w_SS_for_, ↓w_SS_while_, ↓w_SN_lst, ↓w_SE_nl, ↓w_SS_own, ↓w_SN_lc, ↓w_SE_call, ↓w_SE_callS, ↓w_SE_pop, ↓w_SP__no, ↓w_SS_raise0, ↓w_SS_raise1, ↓w_SS_raise2, ↓w_SS_tryO, ↓w_SS_tryA, ↓w_SS_tryM, ↓w_SE_xf, ↓w_SE_isE, ↓w_SE_popAt, ↓w_SN_slO, ↓w_SN_sortedS, ↓w_SN_sortedI, ↓w_SS_asg2, ↓w_SS_par, ↓w_SE_joined, ↓w_SE_join, ↓w_SE_txtB, ↓w_SE_lenSetT, ↓w_SE_chain, ↓w_SO_inSign, ↓w_SO_eqE, ↓w_SB_all_, ↓w_SB_repr, ↓c_i0, ↓c_c0, ↓c_iC, ↓c_addS, ↓c_repS, ↓c_catT, ↓c_ixS, ↓c_ixT, ↓c_ixL, ↓c_eq_ii, ↓c_eq_ss, ↓c_eq_ns, ↓c_eq_sn, ↓c_eq_bb, ↓c_eq_nn, ↓c_eq_ni, ↓c_eq_in, ↓c_ne_ii, ↓c_ne_ss, ↓c_ne_bb, ↓c_ne_ns, ↓c_ne_sn, ↓c_ne_nn, ↓c_ne_ni, ↓c_ne_in, ↓c_inST, ↓c_inSL, ↓c_lenS, ↓c_lenQt, ↓c_lenQl, ↓c_abs, ↓c_int1i, ↓c_int1b, ↓c_tupl, ↓c_tupt, ↓c_max2, ↓c_min2, ↓c_neg, ↓c_tst, ↓c_asI, ↓c_asS, ↓c_asT, ↓c_asL, ↓c_asQl, ↓c_asQt, ↓o_tt, ↓o_ts, ↓o_tl, ↓o_ti, ↓o_st, ↓o_ss, ↓o_sl_, ↓o_si, ↓o_lt, ↓o_ls, ↓o_ll, ↓o_li, ↓o_it, ↓o_is, ↓o_il, ↓o_ii, ↓o_bt, ↓o_bs, ↓o_bl_, ↓o_bi, ↓o_nt, ↓o_ns, ↓o_nl, ↓o_ni, ↓o_dt, ↓o_ds, ↓o_dl, ↓o_di, ↓v_test, ↓v_b, ↓v_andV, ↓v_orV, ↓v_notV, ↓v_isi, ↓v_at, ↓v_slS, ↓v_slT, ↓v_slL, ↓v_listOf, ↓v_revL, ↓v_revT, ↓v_cat, ↓v_rep, ↓v_ilist, ↓v_itup, ↓v_istr, ↓v_enumL, ↓v_enumT, ↓v_rng1, ↓v_rng2, ↓c_rng1, ↓c_rng2, ↓v_zipA, ↓c_zipt, ↓c_zipl, ↓v_gtup, ↓c_unp, ↓v_gunl, ↓c_unpL, ↓v_fmt, ↓c_fmts, ↓c_fmti, ↓v_js, ↓v_lenO, ↓v_tupO, ↓v_listO, ↓v_truO, ↓v_eqEO, ↓v_append, ↓v_ixO, ↓v_extendT, ↓v_extendL, ↓v_insert, ↓v_setL, ↓v_inO, ↓v_v0, ↓v_v0o, ↓v_v0d, ↓v_vs, ↓v_o0, ↓v_os, ↓v_d0, ↓v_ds, tr_non, tr_bl, tr_int, tr_str, tr_tup, tr_lst, tr_dic, in_non, in_bl, in_int, in_str, in_tup, in_lst, in_dic, we_nil, we_cons, sl_name, sl_tup, sl_unl, sa_nil, sa_cons, pr_val, pr_own, st_app, st_nil, js_nil, ↓w_for0, ↓w_for1, List.getElem?_cons_zero, List.getElem?_cons_succ, List.set_cons_zero, List.set_cons_succ, List.length_cons, List.length_nil, List.replicate_succ, List.replicate_zero, if_true, Bool.not_true, Bool.not_false, Bool.false_eq_true, if_false, ite_true, ite_false, decide_true, decide_false, Nat.reduceSub, Nat.reduceAdd, Nat.zero_add, true_and, and_true, ↓w_SE_tupF, ↓w_SE_slF, ↓w_SE_tupleF, ↓w_SE_idxF, ↓c_catF, ↓c_inF, ↓c_ixF, ↓c_lenF, ↓w_SI_frt, ↓c_asF, ↓w_SE_nl, ↓w_SE_dget, ↓w_SE_idxL, ↓w_SE_tabIxI, ↓w_SE_inTabI, ↓c_isntB, ↓w_SB_any_, ↓w_SE_din])
local macro_rules | `(tactic| walk_at "wq") => `(tactic| try simp (config := { maxSteps := 1000000 }) only [↓w_SE_var, ↓w_SE_non, ↓w_SE_bl, ↓w_SE_int, ↓w_SE_str, ↓w_SE_op, ↓w_SE_un, ↓w_SE_cb, ↓w_SE_tup, ↓w_SE_lst, ↓w_SE_ifE, ↓w_SE_isN, ↓w_SE_notN, ↓w_SA_nil, ↓w_SA_cons, ↓w_ST_not, ↓w_ST_and, ↓w_ST_or, ↓w_ST_yes, ↓w_ST_tru, ↓w_SG_name, ↓w_SS_next, ↓w_SS_brk, ↓w_SS_cont, ↓w_SS_never, ↓w_SS_seq, ↓w_SS_cut, ↓w_SS_asg, ↓w_SS_drop, ↓w_SS_ret, ↓w_SS_retN, ↓w_SS_ifS, ↓w_SS_for_, ↓w_SS_while_, ↓w_SN_lst, ↓w_SE_nl, ↓w_SS_own, ↓w_SN_lc, ↓w_SE_call, ↓w_SE_callS, ↓w_SE_pop, ↓w_SP__no, ↓w_SS_raise0, ↓w_SS_raise1, ↓w_SS_raise2, ↓w_SS_tryO, ↓w_SS_tryA, ↓w_SS_tryM, ↓w_SE_xf, ↓w_SE_isE, ↓w_SE_popAt, ↓w_SN_slO, ↓w_SN_sortedS, ↓w_SN_sortedI, ↓w_SS_asg2, ↓w_SS_par, ↓w_SE_joined, ↓w_SE_join, ↓w_SE_txtB, ↓w_SE_lenSetT, ↓w_SE_chain, ↓w_SO_inSign, ↓w_SO_eqE, ↓w_SB_all_, ↓w_SB_repr, ↓c_i0, ↓c_c0, ↓c_iC, ↓c_addS, ↓c_repS, ↓c_catT, ↓c_ixS, ↓c_ixT, ↓c_ixL, ↓c_eq_ii, ↓c_eq_ss, ↓c_eq_ns, ↓c_eq_sn, ↓c_eq_bb, ↓c_eq_nn, ↓c_eq_ni, ↓c_eq_in, ↓c_ne_ii, ↓c_ne_ss, ↓c_ne_bb, ↓c_ne_ns, ↓c_ne_sn, ↓c_ne_nn, ↓c_ne_ni, ↓c_ne_in, ↓c_inST, ↓c_inSL, ↓c_lenS, ↓c_lenQt, ↓c_lenQl, ↓c_abs, ↓c_int1i, ↓c_int1b, ↓c_tupl, ↓c_tupt, ↓c_max2, ↓c_min2, ↓c_neg, ↓c_tst, ↓c_asI, ↓c_asS, ↓c_asT, ↓c_asL, ↓c_asQl, ↓c_asQt, ↓o_tt, ↓o_ts, ↓o_tl, ↓o_ti, ↓o_st, ↓o_ss, ↓o_sl_, ↓o_si, ↓o_lt, ↓o_ls, ↓o_ll, ↓o_li, ↓o_it, ↓o_is, ↓o_il, ↓o_ii, ↓o_bt, ↓o_bs, ↓o_bl_, ↓o_bi, ↓o_nt, ↓o_ns, ↓o_nl, ↓o_ni, ↓o_dt, ↓o_ds, ↓o_dl, ↓o_di, ↓v_test, ↓v_b, ↓v_andV, ↓v_orV, ↓v_notV, ↓v_isi, ↓v_at, ↓v_slS, ↓v_slT, ↓v_slL, ↓v_listOf, ↓v_revL, ↓v_revT, ↓v_cat, ↓v_rep, ↓v_ilist, ↓v_itup, ↓v_istr, ↓v_enumL, ↓v_enumT, ↓v_rng1, ↓v_rng2, ↓c_rng1, ↓c_rng2, ↓v_zipA, ↓c_zipt, ↓c_zipl, ↓v_gtup, ↓c_unp, ↓v_gunl, ↓c_unpL, ↓v_fmt, ↓c_fmts, ↓c_fmti, ↓v_js, ↓v_lenO, ↓v_tupO, ↓v_listO, ↓v_truO, ↓v_eqEO, ↓v_append, ↓v_ixO, ↓v_extendT, ↓v_extendL, ↓v_insert, ↓v_setL, ↓v_inO, ↓v_v0, ↓v_v0o, ↓v_v0d, ↓v_vs, ↓v_o0, ↓v_os, ↓v_d0, ↓v_ds, tr_non, tr_bl, tr_int, tr_str, tr_tup, tr_lst, tr_dic, in_non, in_bl, in_int, in_str, in_tup, in_lst, in_dic, we_nil, we_cons, sl_name, sl_tup, sl_unl, sa_nil, sa_cons, pr_val, pr_own, st_app, st_nil, js_nil, List.getElem?_cons_zero, List.getElem?_cons_succ, List.set_cons_zero, List.set_cons_succ, List.length_cons, List.length_nil, List.replicate_succ, List.replicate_zero, if_true, Bool.not_true, Bool.not_false, Bool.false_eq_true, if_false, ite_true, ite_false, decide_true, decide_false, Nat.reduceSub, Nat.reduceAdd, Nat.zero_add, true_and, and_true, ↓w_SE_tupF, ↓w_SE_slF, ↓w_SE_tupleF, ↓w_SE_idxF, ↓c_catF, ↓c_inF, ↓c_ixF, ↓c_lenF, ↓w_SI_frt, ↓c_asF, ↓w_SE_nl, ↓w_SO_eqE, ↓w_SE_dget, ↓w_SE_idxL, ↓w_SE_tabIxI, ↓w_SE_inTabI, ↓c_isntB, ↓w_SB_any_, ↓w_SE_din])
def sayW : List Str := ["child", "root", "next", "first", "last", "bare"]
structure SayOk (w a b : Str) : Prop where
  w : w ∈ sayW
  a : IsName a
  b : IsName b
section
variable {K : PySem.W.Frag}
/-! ### the law -/
/-! ### what the link needs -/
inductive Cf56 (K : PySem.W.Frag) (A_TwigError A_BadWish : Addr) : Prop
  | mk
end
end Tw
set_option Elab.async false
set_option linter.all false
set_option maxRecDepth 100000
set_option maxHeartbeats 4000000
/-! plain layer: a dict by a comprehension; wishes; who lies in whom, by the open nodes -/
namespace Tw
open PySem PySem.Spec PyProof.Rows L2 TL
/-! ### a dict under way -/
section
variable {K : PySem.W.Frag} [Tbs K] {dk : Option Addr} {F0 F F1 F2 : Addr → Prop} {H0 H H1 H2 : Hp} {D : Addr} {σ : L2.St} {ρ : Tw.Env}
theorem PInv.chgDK {xs ys : List (Key × V)} (h0 : H0 D = none) (nf : ¬ F0 D) (hd : dk ≠ some D) (I : PInv K dk F0 (upd H0 D (.dK xs)) F σ H ρ) : PInv K dk F0 (upd H0 D (.dK ys)) F σ (upd H D (.dK ys)) ρ ∧ Grow K F H F (upd H D (.dK ys)) := by
  have nk : ∀ d, dk = some d → d ≠ D := fun d h e => hd (e ▸ h)
  obtain ⟨f1, f2⟩ := I.offD h0 nf
  have hD : H D = some (.dK xs) := I.st.base D _ upd_same hd
  have ne1 : ∀ b, F b → b ≠ D := fun b h z => f1 (z ▸ h)
  have g : Grow K F H F (upd H D (.dK ys)) := by
    refine ⟨fun _ h => h, fun b us q => ?_, fun b v h e => by rw [upd_ne (ne1 b h)]; exact e⟩
    rcases q with q | q
    · rcases q with q | ⟨u, q⟩
      · exact .inl (.inl (by rw [upd_ne (fun z => by rw [z, hD] at q; cases q)]; exact q))
      · exact .inl (.inr ⟨u, by rw [upd_ne (fun z => by rw [z, hD] at q; cases q)]; exact q⟩)
    · exact .inr q
  refine ⟨⟨⟨fun b u h n => ?_, fun b h => ?_, fun b h => ?_, I.st.f0, I.st.fdk, fun d h => ?_, fun d h => ?_, fun b ps h => ?_, I.st.tb.chg f1 (fun ps q => by rw [hD] at q; cases q) (fun c q' q => by unfold LamX.CodeO at q; rw [hD] at q; cases q)⟩, I.len, fun i s q hs hq => ?_, I.dis, fun i a h => ⟨?_, (I.fresh i a h).2⟩⟩, g⟩
  · by_cases e : b = D
    · rw [e, upd_same] at h ⊢; exact h
    · rw [upd_ne e] at h ⊢; exact I.st.base b u (by rw [upd_ne e]; exact h) n
  · have := I.st.fnew b h
    rw [upd_ne (ne1 b h)] at this ⊢; exact this
  · obtain ⟨u, e⟩ := I.st.fall b h
    exact ⟨u, by rw [upd_ne (ne1 b h)]; exact e⟩
  · obtain ⟨x, y, z, q⟩ := I.st.deck d h
    exact ⟨x, y, z, by rw [upd_ne (nk _ h)]; exact q⟩
  · obtain ⟨x, y, z, q⟩ := I.st.deck0 d h
    rw [upd_ne (nk _ h)] at q
    exact ⟨x, y, z, by rw [upd_ne (nk _ h)]; exact q⟩
  · by_cases e : b = D
    · rw [e, upd_same] at h; cases h
    · rw [upd_ne e] at h; exact I.st.h0 b ps (by rw [upd_ne e]; exact h)
  · refine (I.sl i s q hs hq).mono g fun a w e => upd_ne fun z => ?_
    exact f2 i ⟨s, hs, w, by rw [hq, e, z]⟩
  · have := (I.fresh i a h).1
    have ne : a ≠ D := fun z => f2 i (z ▸ h)
    rw [upd_ne ne] at this ⊢; exact this
end
def wpDc (step : PV → Tw.Env → (Key → PV → Tw.Env → Prop) → Prop) : List PV → List (Key × PV) → Tw.Env → (List (Key × PV) → Tw.Env → Prop) → Prop
  | [], acc, ρ, P => P acc ρ
  | x :: xs, acc, ρ, P => step x ρ fun k y ρ' => acc.length < sizeLine ∧ wpDc step xs (putP acc k y) ρ' P
/-- a turn of a dict's comprehension -/
def dcStep {K : PySem.W.Frag} [Tbs K] (g : SG K) (tk tv : SE K) (PE : PEK) (x : PV) (ρ : Tw.Env) (k : Key → PV → Tw.Env → Prop) : Prop :=
  g.wp x ρ fun ρ1 => tk.wp PE ρ1 fun y ρ2 => tv.wp PE ρ2 fun z ρ3 => ∃ kk, keyP y = some kk ∧ k kk z (wipeE ρ3 g.sl)
namespace SE
variable {K : PySem.W.Frag} [Tbs K]
/-- {k: v for g in wi} -/
def dc (wi : SI K) (g : SG K) (tk tv : SE K) : SE K where
  rd := fun E => tDc (wi.rd E) g.rd tYes (tk.rd E) (tv.rd E) g.sl
  wp := fun PE ρ P => wi.wp PE ρ fun xs ρ1 => wpDc (dcStep g tk tv PE) xs [] (wipeE ρ1 g.sl) fun kvs ρ2 => P (.dic kvs) ρ2
  ok := by
    intro dk F0 H0 F σ H ρ E PE P Q I e h q
    rw [o_dc]
    refine wi.ok I e h fun J H1 F1 xs ρ1 g1 I1 wk h1 => ?_
    obtain ⟨G, Y, wk, wG, wY⟩ := wk
    refine db_walk wk (fun D i H' => H1 D = none ∧ H0 D = none ∧ ¬ F0 D ∧ dk ≠ some D ∧ ∃ F' ρ' accv acc, Grow K F1 H1 F' H' ∧ PInv K dk F0 (upd H0 D (.dK accv)) F' (wipe σ g.sl) H' ρ' ∧ RepK K dk F' H' accv acc ∧ (∀ j, j ∈ g.sl → ∀ s, ρ'[j]? = some s → s = .no) ∧ wpDc (dcStep g tk tv PE) (xs.drop i) acc ρ' fun kvs ρ2 => P (.dic kvs) ρ2) ?_ ?_ ?_ ?_
    · intro D hD
      obtain ⟨I2, g2, e2, r2, a1, a2, a3, a4⟩ := I1.laidD hD (RepK.nil)
      refine ⟨hD, a1, fun z => a2 (I1.st.f0 _ z), a3, F1, wipeE ρ1 g.sl, [], [], g2, ?_, .nil, fun j hj s hs => wipeE_no hj hs, h1⟩
      refine (I2.wiped g.sl).rebase a1 a3 e2 a2 fun i h => ?_
      obtain ⟨s, hs, hw, ee⟩ := h
      rw [wipe_get] at ee
      rw [wipeE_get] at hs
      by_cases hi : i ∈ g.sl
      · rw [if_pos hi] at hs
        split at hs
        · cases hs; cases hw
        · cases hs
      · rw [if_neg hi] at ee hs
        exact a4 i ⟨s, hs, hw, ee⟩
    · rintro D i H' _ ⟨_, _, _, _, F', ρ', _, _, g', _⟩
      exact wG F' H' g'
    · rintro D i v H' H'' hi ⟨hD, d0, df, dd, F', ρ', accv, acc, g', I', r', hn, h'⟩ hy
      obtain ⟨hh, x, hx, r⟩ := wY i F' H' v H'' hi g' hy
      obtain ⟨I2, g2⟩ := I'.turn hh
      have e2 : xs.drop i = x :: xs.drop (i + 1) := by
        rw [List.drop_eq_getElem_cons hi]
        congr 1
        rw [List.getElem?_eq_getElem hi] at hx
        exact Option.some.inj hx
      rw [e2] at h'
      have g12 := (g1.trans g').trans g2
      refine g.ok I2 r h' fun σ3 ρ3 hl3 hs3 I3 h3 => ?_
      have hw3 : wipe σ3 g.sl = wipe σ g.sl := (wipe_same hl3 hs3).trans wipe_wipe
      refine ⟨hw3, ?_⟩
      have eD := (e.grow g12).rebase (o := .dK accv) d0 dd
      rw [o_yes]
      show (if true = true then _ else _)
      rw [if_pos rfl]
      refine tk.ok I3 eD h3 fun w4 H4 F4 y4 ρ4 g4 I4 r4 h4 => ?_
      refine tv.ok I4 (eD.grow g4) h4 fun w H5 F5 y ρ5 g5 I5 r5 h5 => ?_
      obtain ⟨kk, hk, h5a, h5b⟩ := h5
      have gA := (g2.trans g4).trans g5
      have hD5 : H5 D = some (.dK accv) := I5.st.base D _ upd_same dd
      have ra := RepK.mono gA r'
      obtain ⟨I6, g6⟩ := I5.chgDK (ys := putK accv kk w) d0 df dd
      refine ⟨accv, kk, r4.key hk, hD5, by rw [ra.len]; exact h5a, hD, d0, df, dd, F5, wipeE ρ5 g.sl, putK accv kk w, putP acc kk y, (g'.trans gA).trans g6, ?_, RepK.mono g6 (ra.put r5), fun j hj s hs => wipeE_no hj hs, h5b⟩
      have := I6.wiped g.sl
      rw [hw3] at this
      exact this
    · rintro D H' hD ⟨_, d0, df, dd, F', ρ', accv, acc, g', I', r', hn, h'⟩
      rw [List.drop_length] at h'
      have hD5 : H' D = some (.dK accv) := I'.st.base D _ upd_same dd
      obtain ⟨f1, f2⟩ := I'.offD d0 df
      have I2 := (I'.unbase d0 dd).unwiped (σ := σ) (vs := g.sl) (wipe_length _ _) (fun j hj => by rw [wipe_get, if_neg hj]) hn
      obtain ⟨I3, g3⟩ := I2.intoF ⟨d0, f1⟩ hD5 dd fun i h => by
        obtain ⟨s, hs, hw, ee⟩ := h
        refine f2 i ⟨s, hs, hw, ?_⟩
        rw [wipe_get]
        by_cases hi : i ∈ g.sl
        · rw [hn i hi s hs] at hw; cases hw
        · rw [if_neg hi]; exact ee
      exact q _ _ _ _ _ ((g1.trans g').trans g3) I3 (.dic (.inr rfl) hD5 (RepK.mono g3 r')) h'
end SE
theorem w_SE_dc {K : PySem.W.Frag} [Tbs K] {wi : SI K} {g : SG K} {a b : SE K} {PE : PEK} {ρ : Tw.Env} {Q : PV → Tw.Env → Prop} : (SE.dc wi g a b).wp PE ρ Q = (wi.wp PE ρ fun xs ρ1 => wpDc (dcStep g a b PE) xs [] (wipeE ρ1 g.sl) fun kvs ρ2 => Q (.dic kvs) ρ2) := rfl
/-! ### wishes -/
inductive Wi where
  | in_ (a b : Str) | ahead (a b : Str) | here (a : Str) | not (u : Wi) | and (u v : Wi) | or (u v : Wi)
namespace Wi
def pv : Wi → PV
  | .in_ a b => .tup [.str "in", .str a, .str b]
  | .ahead a b => .tup [.str "ahead", .str a, .str b]
  | .here a => .tup [.str "here", .str a]
  | .not u => .tup [.str "not", u.pv]
  | .and u v => .tup [.str "and", u.pv, v.pv]
  | .or u v => .tup [.str "or", u.pv, v.pv]
def dp : Wi → Nat
  | .not u => u.dp + 1
  | .and u v => max u.dp v.dp + 1
  | .or u v => max u.dp v.dp + 1
  | _ => 1
def ct : Wi → Nat
  | .not u => u.ct + 1
  | .and u v => u.ct + v.ct + 1
  | .or u v => u.ct + v.ct + 1
  | _ => 1
def nms : Wi → List Str
  | .in_ a b => [a, b]
  | .ahead a b => [a, b]
  | .here a => [a]
  | .not u => u.nms
  | .and u v => u.nms ++ v.nms
  | .or u v => u.nms ++ v.nms
/-- whether it is so of a wood -/
def so (f : Fo) : Wi → Bool
  | .in_ a b => decide (a ∈ f.nm ∧ b ∈ f.nm) && inB f a b
  | .ahead a b => decide (a ∈ f.nm ∧ b ∈ f.nm) && decide ((ix f false a : Int) < ix f true b)
  | .here a => decide (a ∈ f.nm)
  | .not u => !so f u
  | .and u v => so f u && so f v
  | .or u v => so f u || so f v
end Wi
/-! ### the open nodes at a node -/
/-- the nodes in which a lies, the nearest first -/
def Stk (f : Fo) (a : Str) (st : List Str) : Prop := ∃ x m y, At f a x m y ∧ opn1 [] x = some st
theorem Stk.uniq {f : Fo} {a : Str} {s t : List Str} (h : Stk f a s) (g : Stk f a t) : s = t := by
  obtain ⟨x, m, y, A, e⟩ := h
  obtain ⟨x', m', y', A', e'⟩ := g
  obtain ⟨rfl, _, _⟩ := A.uniq A'
  rw [e] at e'; exact Option.some.inj e'
end Tw
set_option Elab.async false
set_option linter.all false
set_option maxRecDepth 100000
set_option maxHeartbeats 4000000
/-! several except clauses, some with a name -/
namespace Tw
open PySem PySem.Spec PyProof.Rows L2
/-- a clause: its class, the slot of its name, its suite -/
abbrev Clau := Value × Option Nat × (Addr → Value → Option Addr → TS)
def endsAt (o : Option Nat) (D : Ends) : Ends := match o with
  | none => D
  | some i => { nx := fun τ J => D.nx (τ.set i none) J, rt := D.rt, bk := fun τ J => D.bk (τ.set i none) J, ct := fun τ J => D.ct (τ.set i none) J }
def stAt (o : Option Nat) (a : Addr) (σ : L2.St) : L2.St := match o with
  | none => σ
  | some i => σ.set i (some (.ref a))
/-- what the clauses wish, one after the other -/
def wMix (K : PySem.W.Frag) (W0 : WX) (D : Ends) : List Clau → WX
  | [] => W0
  | (c, o, ts) :: r => fun cl d σ H => ∃ b, PySem.W.exmOne K cl c = some b ∧ (b = true → ∀ a, H a = none → ts a cl d (endsAt o D) (stAt o a σ) H) ∧ (b = false → wMix K W0 D r cl d σ H)
inductive HdsMix (X : L2.Cx) : List ExceptHandler → List Clau → Prop
  | nil : HdsMix X [] []
  | no {x : Str} {c : Value} {ts : Addr → Value → Option Addr → TS} {b0 : Stmt} {su : List Stmt} {p1 p2 : Pos} {hs : List ExceptHandler} {l : List Clau} (hc : Names X x c)
      (hu : ∀ (a : Addr) (oe : Obj) (cl : Value) (d : Option Addr) (pn : List (Addr × Obj)), Zc cl d oe → (∃ vs, oe.data = .fields vs) → PSs (X.suite a ((a, oe) :: pn)) (b0 :: su) (ts a cl d)) (r : HdsMix X hs l) : HdsMix X (.ExceptHandler (some (.Name x p1)) none (b0 :: su) p2 :: hs) ((c, none, ts) :: l)
  | as {x n : Str} {i : Nat} {c : Value} {ts : Addr → Value → Option Addr → TS} {b0 : Stmt} {su : List Stmt} {p1 p2 : Pos} {hs : List ExceptHandler} {l : List Clau} (hi : X.N[i]? = some n) (hl : X.env.kindOf n = some .local) (hc : Names X x c)
      (hu : ∀ (a : Addr) (oe : Obj) (cl : Value) (d : Option Addr) (pn : List (Addr × Obj)), Zc cl d oe → (∃ vs, oe.data = .fields vs) → PSs (X.suite a ((a, oe) :: pn)) (b0 :: su) (ts a cl d)) (r : HdsMix X hs l) : HdsMix X (.ExceptHandler (some (.Name x p1)) (some n) (b0 :: su) p2 :: hs) ((c, some i, ts) :: l)
section
variable {X : L2.Cx} {body : List Stmt} {h1 : ExceptHandler} {hds : List ExceptHandler} {l : List Clau} {pos : Pos} {tb : WX → TS} {W0 : WX}
theorem ps_try_mix (hs : X.stack = X.env :: X.outer) (hf : X.env.frame = some X.env.locals) (hN : X.N.Nodup) (tk : L2.Takes X W0) (hh : HdsMix X (h1 :: hds) l) (hb : ∀ (W : WX) (pn : List (Addr × Obj)) (xe : Value → Shared → Prop), L2.Takes (X.tr pn xe) W → PassesOwn (model X.prog X.w) X.A X.env xe → PSs (X.tr pn xe) body (tb W)) :
    PS X (.Try body (h1 :: hds) [] [] pos) (fun D σ H => tb (wMix X.K W0 D l) D σ H) := ⟨fun pins s σ H D I h => by
  have ok := I.ok
  have hfr : X.A.frames = some (X.env :: X.outer) := by
    rw [ok.frames, hs]
  refine wpAny_Try_except (wpAny_mono ((hb (wMix X.K W0 D l) (X.pn ++ pins) (fun e t => wpAny (model X.prog X.w) X.A (noteFrame e X.env) (fun _ t2 => wpAny (model X.prog X.w) X.A (setFlight e none) (fun _ t3 => wpAny (model X.prog X.w) X.A (handleBy e X.env (h1 :: hds)) (SP X pins D) X.xe t3) X.xe t2) X.xe t) (fun u s1 xx => ?_) PassesOwn.looking).run [] s σ H D (I.toTry _) h) (fun f s1 hsp => ?_) (fun e t he => he))
  · -- an error is caught
    obtain ⟨a, B, sI, q0, τ, J0, cl, d, rfl, IT, nb, up, sky, na, os, ag, w⟩ := xx
    have JA : Inv X pins τ J0 sI := IT.ofTry I.ok
    have skyX : Sky B (X.env :: X.outer) a (Zc cl d) X.env.locals s1.heap := by rw [← hs]; exact sky
    refine Sky.land Zc.steady hfr hf skyX fun g3 fl3 up3 => ?_
    have JB : Inv X pins τ J0 { s1 with heap := g3 } := JA.landed nb fl3.1 (up.trans up3) os ag
    obtain ⟨o3, v3, x3, z3, y3⟩ := fl3.there
    have apart : a ∉ frs (X.env :: X.outer) := fun hm => by
      obtain ⟨_, o', e', hnf⟩ := fl3.2.2.1.mem hm
      rw [x3] at e'; cases e'; exact hnf _ y3
    have nL : a ≠ X.env.locals := fun z => apart (List.mem_filterMap.mpr ⟨X.env, List.mem_cons_self, by rw [hf, z]⟩)
    have nF : a ∉ X.fs := fun z1 => apart (by obtain ⟨e2, z2, z3⟩ := List.mem_filterMap.mp z1; exact List.mem_filterMap.mpr ⟨e2, List.mem_cons_of_mem _ z2, z3⟩)
    have SB := JB.suite x3 y3 na nL nF
    clear hb h I
    have go : ∀ {hs2 : List ExceptHandler} {l2 : List Clau}, HdsMix X hs2 l2 → wMix X.K W0 D l2 cl d τ J0 → wpAny (model X.prog X.w) X.A (handleBy (.ref a) X.env hs2) (SP X pins D) X.xe { s1 with heap := g3 } := by
      intro hs2 l2 hk
      have look : ∀ {c : Value} {b : Bool}, PySem.W.exmOne X.K cl c = some b → _ := fun {c b} hb1 => PySem.W.exm_one (M := model X.prog X.w) JB.kIn (fun A Q E s k q => wpAny_typeOf_ref (k _ _ x3) (by rw [z3.1]; exact q) : PySem.W.Looks (model X.prog X.w) g3 (typeOf (.ref a)) cl) hb1
      have test : ∀ {x : Str} {np : Pos} {c : Value} {Q E : Value → Shared → Prop}, Names X x c → Q c { s1 with heap := g3 } → wpAny (model X.prog X.w) (X.A.mark (some (.ref a))) (eval (.Name x np) X.env) Q E { s1 with heap := g3 } := fun {x np c Q E} hc q => by
        obtain ⟨hg, hd0, hm | ⟨hm, hv, hn0⟩⟩ := hc
        · exact ld_glob (X := X.suite a ((a, o3) :: (X.pn ++ pins))) SB hg hm q hd0
        · exact ld_blt (X := X.suite a ((a, o3) :: (X.pn ++ pins))) SB hg hm hv q hn0 hd0
      induction hk with
      | nil =>
        intro w
        refine wpAny_handleBy_nil ?_
        obtain ⟨_, _, _, oe, vs, T, oT, ts', he, hz, hd, e1, hr⟩ := id fl3
        unfold PySem.passOn
        refine wpAny_bind (wpAny_field he hd e1 ?_)
        rw [if_neg (show ¬ ((Value.ref T == Value.none) = true) by simp)]
        have fin : wpAny (model X.prog X.w) X.A (setFlight (.ref a) X.env.frame) (fun _ t4 => wpAny (model X.prog X.w) X.A (throw (.ref a) : Sem Flow) (SP X pins D) X.xe t4) X.xe { s1 with heap := g3 } := by
          rw [hf]
          exact HandSPX.setFlight_upZ fl3 fun h4 hh4 up4 => wpAny_throw (tk _ _ ⟨a, B, sI, pins, τ, J0, cl, d, rfl, JA, nb, (up.trans up3).trans up4, .inr (.inr (by rw [hs]; exact hh4)), na, os, ag, w⟩)
        first | exact wpAny_bind (wpAny_pure (wpAny_bind fin)) | exact wpAny_bind fin
      | no hc hu r ih =>
        rintro ⟨b, e1, hy, hn⟩
        refine wpAny_handleBy_cons (codeAny_handlers_test (test hc ((look e1).here ?_))) (fun q => by cases q)
        cases b with
        | false => exact ih (hn rfl)
        | true =>
          refine codeAny_handlers_suite (HandSPX.lands_againZ fl3 fun h4 fl4 up4 => ?_)
          have JC : Inv X pins τ J0 { s1 with heap := h4 } := JA.landed nb fl4.1 ((up.trans up3).trans up4) os ag
          obtain ⟨o4, v4, x4, z4, y4⟩ := fl4.there
          refine wpAny_mono ((hu a o4 cl d (X.pn ++ pins) z4 ⟨_, y4⟩).run [] _ _ J0 _ (JC.suite x4 y4 na nL nF) (hy rfl a na)) (fun f s6 hsp => ?_) (fun _ _ z => z.elim)
          cases f with
          | next => obtain ⟨σ6, H6, S6, q6⟩ := hsp; exact ⟨_, _, S6.unsuite ok, q6⟩
          | brk => obtain ⟨σ6, H6, S6, q6⟩ := hsp; exact ⟨_, _, S6.unsuite ok, q6⟩
          | cont => obtain ⟨σ6, H6, S6, q6⟩ := hsp; exact ⟨_, _, S6.unsuite ok, q6⟩
          | ret u => obtain ⟨v6, σ6, H6, S6, r6, q6⟩ := hsp; exact ⟨_, _, _, S6.unsuite ok, r6, q6⟩
      | as hi hl hc hu r ih =>
        rintro ⟨b, e1, hy, hn⟩
        refine wpAny_handleBy_cons (codeAny_handlers_test (test hc ((look e1).here ?_))) (fun q => by cases q)
        cases b with
        | false => exact ih (hn rfl)
        | true =>
          refine codeAny_handlers_suite_as (HandSPX.lands_againZ fl3 fun h4 fl4 up4 => ?_)
          have JC : Inv X pins τ J0 { s1 with heap := h4 } := JA.landed nb fl4.1 ((up.trans up3).trans up4) os ag
          obtain ⟨o4, v4, x4, z4, y4⟩ := fl4.there
          refine store_ok (X := X.suite a ((a, o4) :: (X.pn ++ pins))) (v := .ref a) (JC.suite x4 y4 na nL nF) hN hi (.inl hl) rfl (fun s5 S5 => ?_) (.inr hl)
          refine wpAny_mono ((hu a o4 cl d (X.pn ++ pins) z4 ⟨_, y4⟩).run [] s5 _ J0 _ S5 (hy rfl a na)) (fun f s6 hsp => ?_) (fun _ _ z => z.elim)
          have gone : ∀ {τ6 : L2.St} {H6 : Hp} {Q : Shared → Prop} {p2 : Pos}, Inv (X.suite a ((a, o4) :: (X.pn ++ pins))) [] τ6 H6 s6 → (∀ s7, Inv X pins (τ6.set _ none) H6 s7 → Q s7) → wpAny (model X.prog X.w) X.A (do bindName X.env _ .none; unbindBehindTheSuite X.env _ p2) (fun _ s7 => Q s7) X.xe s6 := fun S6 hq => gone_ok (S6.unsuite ok) hN hi hl hq
          cases f with
          | next => obtain ⟨σ6, H6, S6, q6⟩ := hsp; exact gone S6 fun s7 J7 => ⟨_, _, J7, q6⟩
          | brk => obtain ⟨σ6, H6, S6, q6⟩ := hsp; exact gone S6 fun s7 J7 => ⟨_, _, J7, q6⟩
          | cont => obtain ⟨σ6, H6, S6, q6⟩ := hsp; exact gone S6 fun s7 J7 => ⟨_, _, J7, q6⟩
          | ret u => obtain ⟨v6, σ6, H6, S6, r6, q6⟩ := hsp; exact gone S6 fun s7 J7 => ⟨_, _, _, J7, r6, q6⟩
    exact go hh w
  · cases f with
    | next => obtain ⟨τ, J0, IT, q⟩ := hsp; exact wpAny_execs_nil ⟨τ, J0, IT.ofTry ok, q⟩
    | brk => obtain ⟨τ, J0, IT, q⟩ := hsp; exact ⟨τ, J0, IT.ofTry ok, q⟩
    | cont => obtain ⟨τ, J0, IT, q⟩ := hsp; exact ⟨τ, J0, IT.ofTry ok, q⟩
    | ret u => obtain ⟨v, τ, J0, IT, r, q⟩ := hsp; exact ⟨v, τ, J0, IT.ofTry ok, r, q⟩⟩
end
/-! ### in the plain layer -/
/-- a plain clause: its class, the slot of its name, its suite -/
abbrev PCl (K : PySem.W.Frag) [Tbs K] := Addr × Option Nat × (Addr → Value → Option Addr → SS K)
def pendAt (o : Option Nat) (PD : PEnds) : PEnds := match o with
  | none => PD
  | some i => { nx := fun ρ' => PD.nx (ρ'.set i .no), rt := PD.rt, bk := fun ρ' => PD.bk (ρ'.set i .no), ct := fun ρ' => PD.ct (ρ'.set i .no) }
def penvAt (o : Option Nat) (a : Addr) (d : Option Addr) (er : PErr) (ρ : Tw.Env) : Tw.Env := match o with
  | none => ρ
  | some i => ρ.set i (.err a d er)
def wpMix {K : PySem.W.Frag} [Tbs K] (PE : PEK) (PD : PEnds) : List (PCl K) → PEK
  | [] => PE
  | (C, o, cl) :: r => fun ρ1 er => ∃ b, PySem.W.exmOne K (.ref er.1) (.ref C) = some b ∧ (b = true → ∀ a d, (cl a (.ref er.1) d).wp PE (pendAt o PD) (penvAt o a d er ρ1)) ∧ (b = false → wpMix PE PD r ρ1 er)
namespace SS
variable {K : PySem.W.Frag} [Tbs K]
/-- try: body, and clauses, some of them with a name -/
def tryX (body : SS K) (l : List (PCl K)) : SS K where
  rd := fun E D σ H => body.rd (WE (wMix K (fun cls d σ H => E σ cls d H) D (l.map fun c => (.ref c.1, c.2.1, fun a cls d => (c.2.2 a cls d).rd E)))) D σ H
  wp := fun PE PD ρ => body.wp (wpMix PE PD l) PD ρ
  ok := by
    intro dk F0 H0 F σ H ρ E PE D PD I e d h
    refine body.ok I (fun F' σ' H' ρ' C' d' fv fs g I' r ed p => ?_) d h
    have hm : ∀ l : List (PCl K), wpMix PE PD l ρ' (C', fs) → wMix K (fun cls d σ H => E σ cls d H) D (l.map fun c => (.ref c.1, c.2.1, fun a cls d => (c.2.2 a cls d).rd E)) (.ref C') d' σ' H' := by
      intro l
      induction l with
      | nil => exact fun p => e _ _ _ _ _ _ _ _ g I' r ed p
      | cons c l ih =>
        obtain ⟨C, o, cl⟩ := c
        rintro ⟨b, hb, k1, k2⟩
        refine ⟨b, hb, fun hb1 a ha => ?_, fun hb2 => ih (k2 hb2)⟩
        obtain ⟨F2, I2, g2, ea⟩ := I'.keepE r ed
        have g12 := g.trans g2
        cases o with
        | none => exact (cl a (.ref C') d').ok I2 (e.grow g12) (d.grow g12) (k1 hb1 a d')
        | some i =>
          refine (cl a (.ref C') d').ok (I2.setE (i := i) (a := a) (er := (C', fs)) ea) (e.grow g12) ⟨?_, ?_, ?_, ?_⟩ (k1 hb1 a d')
          · exact fun F3 σ3 H3 ρ3 g3 I3 h3 => d.nx _ _ _ _ (g12.trans g3) I3.setN h3
          · exact d.rt
          · exact fun F3 σ3 H3 ρ3 g3 I3 h3 => d.bk _ _ _ _ (g12.trans g3) I3.setN h3
          · exact fun F3 σ3 H3 ρ3 g3 I3 h3 => d.ct _ _ _ _ (g12.trans g3) I3.setN h3
    exact hm l p
end SS
theorem w_SS_tryX {K : PySem.W.Frag} [Tbs K] {body : SS K} {l : List (PCl K)} {PE : PEK} {PD : PEnds} {ρ : Tw.Env} : (SS.tryX body l).wp PE PD ρ = body.wp (wpMix PE PD l) PD ρ := rfl
end Tw
set_option Elab.async false
set_option linter.all false
set_option maxRecDepth 100000
set_option maxHeartbeats 4000000
/-! f(lambda: body), f a def of the form: try: work() / several clauses / rest -/
namespace Tw
open PySem PySem.Spec PyProof.Rows L2 TL
section
variable (K : PySem.W.Frag) [Tbs K]
/-- what the clauses make of an error, the rest behind them -/
def wLam (l : List (PCl K)) (rest : SS K) (H0 : Hp) (Q : VK) : WX :=
  wMix K (fun _ _ _ _ => False) { nx := fun σ' H' => rest.rd (fun _ => E0) { nx := fun _ H' => Q .non H', rt := Q } σ' H', rt := Q } (l.map fun c => (.ref c.1, c.2.1, fun a cls d => (c.2.2 a cls d).rd fun _ => E0))
/-- what the def makes of what it got -/
def TTmix (l : List (PCl K)) (n : Nat) (rest : SS K) : (XK → Hp → VK → Prop) → Hp → VK → Prop := fun tl H Q =>
  ∀ f : Addr, tl (fun cls d H' => ∀ τ : L2.St, τ.length = n → wLam K l rest H Q cls d τ H') H
    fun _ H' => rest.rd (fun _ => E0) { nx := fun _ H' => Q .non H', rt := Q } (startN n [.ref f]) H'
end
namespace SE
variable {K : PySem.W.Frag} [Tbs K]
def lamM (l : List (PCl K)) (n : Nat) (rest : SS K) (body : SE K) : SE K where
  rd := fun _ => LamX.tLam (Tbs.T K) (TTmix K l n rest) (fun E => body.rd fun _ => E)
  wp := fun _ ρ P => 1 ≤ n ∧ body.wp (fun _ er => wpMix (fun _ _ => False) { nx := fun ρ2 => rest.wp (fun _ _ => False) { nx := fun _ => P .non ρ, rt := fun x => P x ρ } ρ2, rt := fun x => P x ρ } l (List.replicate n .no) er)
    (ρ.map seen) fun _ _ => rest.wp (fun _ _ => False) { nx := fun _ => P .non ρ, rt := fun x => P x ρ } (List.replicate n .no)
  ok := by
    intro dk F0 H0 F σ H ρ E PE P Q I e h q
    obtain ⟨hn, h⟩ := h
    refine ⟨I.st.tb.tabs, fun H1 eN T1 f => ?_⟩
    obtain ⟨I1, g1⟩ := I.extN eN T1
    have hlen : (startN n [.ref f]).length = n := by simp [startN]; omega
    have back : ∀ v H'' F'' x, St0 K dk F (hide H1) F'' H'' → Rep K dk F'' H'' v x → P x ρ → Q v H'' := fun v H'' F'' x s r p => by
      obtain ⟨I2, g2⟩ := I1.call s
      exact q v H'' F'' x ρ (g1.trans g2) I2 r p
    have frame : ∀ F' H' (τ : L2.St), τ.length = n → St0 K dk F (hide H1) F' H' → PInv K dk F (hide H1) F' τ H' (List.replicate n .no) := fun F' H' τ hlen s => by
      have := PInv.bare (τ := τ) s
      rw [hlen] at this; exact this
    have after : ∀ F' H' τ ρ', PInv K dk F (hide H1) F' τ H' ρ' → rest.wp (fun _ _ => False) { nx := fun _ => P .non ρ, rt := fun x => P x ρ } ρ' → rest.rd (fun _ => E0) { nx := fun _ H' => Q .non H', rt := Q } τ H' := fun F' H' τ ρ' I' hw =>
      rest.ok (PE := fun _ _ => False) (PD := { nx := fun _ => P .non ρ, rt := fun x => P x ρ }) I' (fun _ _ _ _ _ _ _ _ _ _ _ _ z => z.elim) ⟨fun F2 σ2 H2 ρ2 g2 I2 p => back .non H2 F2 .non I2.st .non p, fun F2 H2 v x s r p => back v H2 F2 x s r p, fun _ _ _ _ _ _ z => z.elim, fun _ _ _ _ _ _ z => z.elim⟩ hw
    refine body.ok I1.lam (fun F' σ' H' ρ' C' d' fv fs g I' rf ed p => ?_) h fun v H' F' x ρ' g I' r hp => after F' H' _ _ (frame F' H' _ hlen I'.st) hp
    intro τ hτ
    have hm : ∀ l : List (PCl K), wpMix (fun _ _ => False) { nx := fun ρ2 => rest.wp (fun _ _ => False) { nx := fun _ => P .non ρ, rt := fun x => P x ρ } ρ2, rt := fun x => P x ρ } l (List.replicate n .no) (C', fs) → wLam K l rest H1 Q (.ref C') d' τ H' := by
      intro l
      induction l with
      | nil => exact fun p => p.elim
      | cons c l ih =>
        obtain ⟨C, o, cl⟩ := c
        rintro ⟨b, hb, k1, k2⟩
        refine ⟨b, hb, fun hb1 a ha => ?_, fun hb2 => ih (k2 hb2)⟩
        obtain ⟨F2, I2, g2, ea⟩ := (frame F' H' τ hτ I'.st).keepE rf ed
        cases o with
        | none =>
          refine (cl a (.ref C') d').ok (PE := fun _ _ => False) I2 (fun _ _ _ _ _ _ _ _ _ _ _ _ z => z.elim) ⟨?_, ?_, ?_, ?_⟩ (k1 hb1 a d')
          · exact fun F3 σ3 H3 ρ3 g3 I3 h3 => after F3 H3 _ _ I3 h3
          · exact fun F3 H3 v x s r p => back v H3 F3 x s r p
          · exact fun _ _ _ _ _ _ z => z.elim
          · exact fun _ _ _ _ _ _ z => z.elim
        | some i =>
          refine (cl a (.ref C') d').ok (PE := fun _ _ => False) (I2.setE (i := i) (a := a) (er := (C', fs)) ea) (fun _ _ _ _ _ _ _ _ _ _ _ _ z => z.elim) ⟨?_, ?_, ?_, ?_⟩ (k1 hb1 a d')
          · exact fun F3 σ3 H3 ρ3 g3 I3 h3 => after F3 H3 _ _ I3.setN h3
          · exact fun F3 H3 v x s r p => back v H3 F3 x s r p
          · exact fun _ _ _ _ _ _ z => z.elim
          · exact fun _ _ _ _ _ _ z => z.elim
    exact hm l p
end SE
theorem trymix_gives {K : PySem.W.Frag} [Tbs K] {X : L2.Cx} (hK : X.K = K) {Ng : List Str} {x a q : Str} {sg : Scope} {g : Addr} {cdg : Value} {n : Nat} {l : List (PCl K)} {rest : SS K} {h1 : ExceptHandler} {hds : List ExceptHandler} {restB : List Stmt} {p1 p2 p3 p8 : Pos}
    (hn : Ng.length = n) (nd : Ng.Nodup)
    (hh : ∀ (s : Shared) (H : Hp), HdsMix (cxOf C8.CX0 X.prog X.w X.K X.mg X.base Ng x sg g cdg X.A X.stack s H C8.E0).nox (h1 :: hds) (l.map fun c => (.ref c.1, c.2.1, fun a cls d => (c.2.2 a cls d).rd fun _ => E0)))
    (hrest : ∀ (s : Shared) (H : Hp), PSs (cxOf C8.CX0 X.prog X.w X.K X.mg X.base Ng x sg g cdg X.A X.stack s H C8.E0).nox restB (rest.rd fun _ => E0))
    (h0 : ∀ f : Addr, (L2.start Ng [V.ref f])[0]? = some (some (V.ref f)))  :
    LamX.GivesTo X Ng x sg g cdg (.Try [.Expr (.Call (.Name a p1) [] [] p2) p3] (h1 :: hds) [] [] p8 :: restB) a q (TTmix K l n rest) := by
  subst hK
  intro f c' s H Q tl act hc h
  refine ⟨_, pss_cons (ps_try_mix (X := (cxOf C8.CX0 X.prog X.w X.K X.mg X.base Ng x sg g cdg X.A X.stack s H C8.E0).nox)
      (tb := fun W D σ H => ∃ Ech : XK, (∀ cls d σ' H', Ech cls d H' → σ'.length = n → W cls d σ' H') ∧ σ[0]? = some (some (.ref f)) ∧ H c' = some (LamX.CodeO c' q) ∧ tl Ech H (fun _ H' => D.nx σ H'))
      (W0 := fun _ _ _ _ => False) rfl rfl nd LamX.takes0 (hh s H) (fun W pn xe tk _ => ?_)) (hrest s H), ?_⟩
  · refine ⟨fun pins s' σ H' D I h' => ?_⟩
    obtain ⟨Ech, hW, h1, h2, h3⟩ := h'
    have hp := act (fun cls d σ H => σ.length = n → W cls d σ H) pn xe Ech p1 p2 (takes_len hn tk) hW
    have hq := pss_one (ps_expr (pos := p3) hp)
    exact hq.run pins s' σ H' D I ⟨h1, h2, h3⟩
  · have h1 := h f
    rw [← start_n hn] at h1
    exact ⟨_, fun cls d σ' H' hE hl => hE σ' hl, h0 f, hc, h1⟩
theorem pe_lamM {K : PySem.W.Frag} [Tbs K] {X : L2.Cx} (hK : X.K = K) {x a : Str} {st : Stmt} {Ng : List Str} {n k : Nat} {l : List (PCl K)} {rest : SS K} {h1 : ExceptHandler} {hds : List ExceptHandler} {restB : List Stmt} {p1 p2 p3 p8 p lpos pos : Pos}
    {params : Arguments} {body : Expr} {scope : Scope} {bd : SE K} {cc P : Addr} {E1 : EK}
    (D : Df X.K X.mg x st) (hg : Gl X x) (Sg : FnScope Ng [a] (defScope st)) (hNg : Ng[0]? = some a) (hva : Vis (defScope st) a)
    (hbs : defBody st = .Try [.Expr (.Call (.Name a p1) [] [] p2) p3] (h1 :: hds) [] [] p8 :: restB)
    (hbd : ∀ fd, (∃ (f : Addr), FunD X.K x x (defArgs st) (defBody st) (defScope st) [] [] f fd) → L2.Binds X.K fd [a] [])
    (hn : Ng.length = n) (nd : Ng.Nodup)
    (hh : ∀ (g : Addr) (cdg : Value) (s : Shared) (H : Hp), HdsMix (cxOf C8.CX0 X.prog X.w X.K X.mg X.base Ng x (defScope st) g cdg X.A X.stack s H C8.E0).nox (h1 :: hds) (l.map fun c => (.ref c.1, c.2.1, fun a cls d => (c.2.2 a cls d).rd fun _ => E0)))
    (hrest : ∀ (g : Addr) (cdg : Value) (s : Shared) (H : Hp), PSs (cxOf C8.CX0 X.prog X.w X.K X.mg X.base Ng x (defScope st) g cdg X.A X.stack s H C8.E0).nox restB (rest.rd fun _ => E0))
    (h0 : ∀ f : Addr, (L2.start Ng [V.ref f])[0]? = some (some (V.ref f)))
    (TB : LamX.TabB X.base X.mg cc P) (hcode : X.env.code = .ref cc) (hmT : (P, X.env.qual ++ "<lambda>") ∈ Tbs.T K) (hu : ∀ p ∈ Tbs.T K, p.1 = P → p.2 = X.env.qual ++ "<lambda>") (hr : Room (k + 2) X.A) (L : LamX.LamS X.env.scope scope) (hdef : defaultsOf params X.env = ([], []))
    (hbind : ∀ (q : Str) (cl : List (Str × Addr)) (pm cv ctv : Value), bindArgs (PySem.W.kla_fn "<lambda>" q params body scope cl pm cv ctv) ⟨[], []⟩ = pure [])
    (hbody : ∀ (A : Around) (outer : List PySem.Env) (s : Shared) (H : Hp) (E : XK) (f c' : Addr), Room k (A.deeper (LamX.lamEnv X scope s.heap.objs.size f c')) → PE (LamX.lamCx X A outer s H E scope f c') body (bd.rd fun _ => E))
    (hdb : (x == ("__debug__" : Str)) = false := by decide) (hda : (a == ("__debug__" : Str)) = false := by decide) (hcd : (a == ("__classdict__" : Str)) = false := by decide) :
    PE X (.Call (.Name x p) [.Lambda params body scope lpos] [] pos) ((SE.lamM l n rest bd).rd E1) := by
  obtain ⟨g, fd, hm, F⟩ := D
  have hb := hbd fd ⟨g, F⟩
  obtain ⟨oc, od, dV, kV, doc, pm, an, cdv, ct, osl, rfl, lk, hcode2, _, _⟩ := F.ex
  have hG : LamX.GivesTo X Ng x (defScope st) g cdv (defBody st) a (X.env.qual ++ "<lambda>") (TTmix K l n rest) := by
    rw [hbs]
    exact trymix_gives hK hn nd (fun s H => hh g cdv s H) (fun s H => hrest g cdv s H) h0
  exact LamX.pe_lamcall hg hm F.kp lk hcode2 hb Sg hNg hva hG TB hcode hmT hu hr L hdef hbind hbody hdb hda hcd
end Tw
set_option Elab.async false
set_option linter.all false
set_option maxRecDepth 100000
set_option maxHeartbeats 4000000
/-! what may stand in the place of a wood: a text, a tuple, something else; why it is no wood -/
namespace Tw
open PySem PySem.Spec PyProof.Rows L2 TL
inductive WV where
  | txt (z : Str)
  | oth
  | tup (l : List WV)
mutual
def WV.sz : WV → Nat
  | .txt _ => 1
  | .oth => 1
  | .tup l => 1 + WV.szs l
def WV.szs : List WV → Nat
  | [] => 0
  | x :: l => x.sz + WV.szs l
end
mutual
def WV.dp : WV → Nat
  | .txt _ => 1
  | .oth => 1
  | .tup l => 1 + WV.dps l
def WV.dps : List WV → Nat
  | [] => 0
  | x :: l => max x.dp (WV.dps l)
end
mutual
inductive AtW (K : PySem.W.Frag) (H : Hp) : V → WV → Prop where
  | txt {z : Str} (h : z.length ≤ 1000) : AtW K H (.str z) (.txt z)
  | oth {v : V} (h : Oth K H v) : AtW K H v .oth
  | tup {p : Addr} {vs : List V} {l : List WV} (h : SqT K H p vs) (r : Its K H vs l) : AtW K H (.ref p) (.tup l)
inductive Its (K : PySem.W.Frag) (H : Hp) : List V → List WV → Prop where
  | nil : Its K H [] []
  | cons {v : V} {x : WV} {vs : List V} {l : List WV} (a : AtW K H v x) (r : Its K H vs l) : Its K H (v :: vs) (x :: l)
end
mutual
theorem AtW.mono {K : PySem.W.Frag} {H H' : Hp} (t : Tk K H H') (o : ∀ v, Oth K H v → Oth K H' v) : ∀ {v : V} {x : WV}, AtW K H v x → AtW K H' v x
  | _, _, .txt h => .txt h
  | _, _, .oth h => .oth (o _ h)
  | _, _, .tup h r => .tup (t _ _ h) (Its.mono t o r)
theorem Its.mono {K : PySem.W.Frag} {H H' : Hp} (t : Tk K H H') (o : ∀ v, Oth K H v → Oth K H' v) : ∀ {vs : List V} {l : List WV}, Its K H vs l → Its K H' vs l
  | _, _, .nil => .nil
  | _, _, .cons a r => .cons (AtW.mono t o a) (Its.mono t o r)
end
theorem AtW.kp {K : PySem.W.Frag} {H H' : Hp} (k : Kp H H') {v : V} {x : WV} (h : AtW K H v x) : AtW K H' v x := h.mono (Tk.kp k) fun _ h => h.kp k
theorem AtW.dk {K : PySem.W.Frag} {H H' : Hp} {d : Addr} (k : Dk d H H') (hd : DeckAt H d) {v : V} {x : WV} (h : AtW K H v x) : AtW K H' v x := h.mono (k.tk hd) fun _ h => h.dk k hd
/-- two rows, item by item -/
inductive L2R {α β : Type} (P : α → β → Prop) : List α → List β → Prop where
  | nil : L2R P [] []
  | cons {a : α} {b : β} {as : List α} {bs : List β} (h : P a b) (r : L2R P as bs) : L2R P (a :: as) (b :: bs)
namespace L2R
variable {α β : Type} {P : α → β → Prop}
theorem len {as : List α} {bs : List β} (h : L2R P as bs) : as.length = bs.length := by
  induction h with
  | nil => rfl
  | cons _ _ ih => simp [ih]
theorem app {as : List α} {bs : List β} (h : L2R P as bs) {as' : List α} {bs' : List β} (h' : L2R P as' bs') : L2R P (as ++ as') (bs ++ bs') := by
  induction h with
  | nil => exact h'
  | cons a _ ih => exact .cons a ih
theorem rev {as : List α} {bs : List β} (h : L2R P as bs) : L2R P as.reverse bs.reverse := by
  induction h with
  | nil => exact .nil
  | cons a _ ih => rw [List.reverse_cons, List.reverse_cons]; exact ih.app (.cons a .nil)
theorem mono {P' : α → β → Prop} (m : ∀ a b, P a b → P' a b) {as : List α} {bs : List β} (h : L2R P as bs) : L2R P' as bs := by
  induction h with
  | nil => exact .nil
  | cons a _ ih => exact .cons (m _ _ a) ih
theorem at_ {as : List α} {bs : List β} (h : L2R P as bs) : ∀ {i : Nat} {a : α}, as[i]? = some a → ∃ b, bs[i]? = some b ∧ P a b := by
  induction h with
  | nil => intro i a h; simp at h
  | cons h _ ih =>
    intro i a e
    cases i with
    | zero => exact ⟨_, rfl, by cases e; exact h⟩
    | succ i => exact ih (by simpa using e)
end L2R
theorem L2R.its {K : PySem.W.Frag} {H : Hp} {vs : List V} {l : List WV} (h : L2R (AtW K H) vs l) : Its K H vs l := by
  induction h with
  | nil => exact .nil
  | cons a _ ih => exact .cons a ih
/-! ### why it is no wood -/
abbrev R3 := Option Str × List Str × Nat
mutual
def rea : WV → List Str → Nat → Nat → R3
  | .txt _, s, _, m => (some "wood", s, m)
  | .oth, s, _, m => (some "wood", s, m)
  | .tup l, s, d, m => reas l s d m
def reas : List WV → List Str → Nat → Nat → R3
  | [], s, _, m => (none, s, m)
  | x :: l, s, d, m => match tre x s (d + 1) m with
    | (some w, s', m') => (some w, s', m')
    | (none, s', m') => reas l s' d m'
def tre : WV → List Str → Nat → Nat → R3
  | .tup [.txt z, b], s, d, m => if nameB z = true then (if z ∈ s then (some "again", s, m) else rea b (s ++ [z]) d (max m d)) else (some "name", s, m)
  | .tup [.oth, _], s, _, m => (some "name", s, m)
  | .tup [.tup _, _], s, _, m => (some "name", s, m)
  | _, s, _, m => (some "tree", s, m)
end
def run : List (WV × Nat) → List Str → Nat → R3
  | [], s, m => (none, s, m)
  | (t, d) :: r, s, m => match tre t s d m with
    | (some w, s', m') => (some w, s', m')
    | (none, s', m') => run r s' m'
def ov : Option Str → V
  | none => .non
  | some w => .str w
end Tw
set_option Elab.async false
set_option linter.all false
set_option maxRecDepth 100000
set_option maxHeartbeats 4000000
/-! wood_error, both -/
namespace Tw
open PySem PySem.Spec PyProof.Rows L2 TL
local macro_rules | `(tactic| walk_at "rd") => `(tactic| try simp only [o_op, o_un, o_var, o_c, o_cb, o_call, o_cons, o_nil, o_tup, o_lst, o_I0, o_I, o_int1, o_intb, o_abs, o_test, o_b, o_not, o_and, o_or, o_andV, o_orV, o_notV, o_ifE, o_isN, o_notN, o_eq, o_ne, o_seq, o_next, o_asg, o_name, o_sub, o_par, o_par3, o_drop, o_ret, o_retN, o_ifS, o_sl, o_noPart, o_part, o_bm, o_bm0, o_m0, o_m1, o_dget, o_dput, o_din, o_dnotin, o_listKeys, e_bl, e_int, e_str, e_some, e_two, e_three, o_for, o_lc, o_iList, o_iTup, o_iRng1, e_int1, e_ref, o_yes, o_wipe0, o_wipe1, o_disp, o_dnew, o_pairs0, o_pairs1, o_lock, o_keysM, o_gtup, o_gcons, o_gnil, o_rU, o_tru, o_revT, o_enumT, o_from, true_and, if_pos, List.getElem?_cons_zero, List.getElem?_cons_succ, List.set_cons_zero, List.set_cons_succ, List.append_nil])
/-- what is still to be looked at: things, and how deep they lie -/
def StAt (K : PySem.W.Frag) (H : Hp) : List V → List (WV × Nat) → Prop := L2R fun v t => ∃ p tv, v = .ref p ∧ SqT K H p [tv, .int (t.2 : Int)] ∧ AtW K H tv t.1
section
variable {K : PySem.W.Frag}
/-- isinstance(v, tuple) -/
def isT : WV → Bool
  | .tup _ => true
  | _ => false
theorem AtW.isi {H : Hp} {Q : VK} {v : V} {x : WV} (h : AtW K H v x) (q : Q (.bl (isT x)) H) : rIsiB K "tuple" [v, .ty "tuple"] H Q := by
  cases h with
  | txt h => exact o_isiTS q
  | oth h => exact o_isiTO h q
  | tup h _ => exact o_isiT h q
theorem AtW.noStr {H : Hp} {v : V} {x : WV} (h : AtW K H v x) : (∃ z : Str, v = .str z ∧ x = .txt z ∧ z.length ≤ 1000) ∨ (NoStr K H v ∧ ∀ z, x ≠ .txt z) := by
  cases h with
  | txt h => exact .inl ⟨_, rfl, rfl, h⟩
  | oth h => exact .inr ⟨(Nt.oth h).noStr, fun z e => by cases e⟩
  | tup h _ => exact .inr ⟨(Nt.tup h).noStr, fun z e => by cases e⟩
theorem StAt.mono {H H' : Hp} (t : Tk K H H') (o : ∀ v, Oth K H v → Oth K H' v) {ws : List V} {st : List (WV × Nat)} (h : StAt K H ws st) : StAt K H' ws st :=
  L2R.mono (fun _ _ ⟨p, tv, e, h, a⟩ => ⟨p, tv, e, t _ _ h, a.mono t o⟩) h
theorem StAt.kp {H H' : Hp} (k : Kp H H') {ws : List V} {st : List (WV × Nat)} (h : StAt K H ws st) : StAt K H' ws st := h.mono (Tk.kp k) fun _ h => h.kp k
/-- a list or a dict at b has changed, and is one still -/
theorem Oth.but {H H' : Hp} {b : Addr} (hb : (∃ xs ys, H b = some (.lst xs) ∧ H' b = some (.lst ys)) ∨ (∃ xs ys, H b = some (.dK xs) ∧ H' b = some (.dK ys)) ∨ (∃ xs, H b = some (.dT xs)) ∨ H b = none) (h : ∀ a o, H a = some o → a ≠ b → H' a = some o) : ∀ v, Oth K H v → Oth K H' v := fun v hv => by
  cases hv with
  | non => exact .non
  | bl b => exact .bl b
  | int i => exact .int i
  | @lst a ys ha =>
    by_cases e : a = b
    · subst e
      rcases hb with ⟨_, _, h1, h2⟩ | ⟨_, _, h1, _⟩ | ⟨_, h1⟩ | h1
      · exact .lst h2
      · rw [h1] at ha; cases ha
      · rw [h1] at ha; cases ha
      · rw [h1] at ha; cases ha
    · exact .lst (h _ _ ha e)
  | @dic a ys ha =>
    by_cases e : a = b
    · subst e
      rcases hb with ⟨_, _, h1, h2⟩ | ⟨_, _, h1, h2⟩ | ⟨_, h1⟩ | h1
      · rw [h1] at ha; cases ha
      · exact .dic h2
      · rw [h1] at ha; cases ha
      · rw [h1] at ha; cases ha
    · exact .dic (h _ _ ha e)
end
end Tw
set_option Elab.async false
set_option linter.all false
set_option maxRecDepth 100000
set_option maxHeartbeats 4000000
/-! the law's own wood_error -/
namespace Tw
open PySem PySem.Spec PyProof.Rows L2 TL
local macro_rules | `(tactic| walk_at "rd") => `(tactic| try simp only [o_op, o_un, o_var, o_c, o_cb, o_call, o_cons, o_nil, o_tup, o_lst, o_I0, o_I, o_int1, o_intb, o_abs, o_test, o_b, o_not, o_and, o_or, o_andV, o_orV, o_notV, o_ifE, o_isN, o_notN, o_eq, o_ne, o_seq, o_next, o_asg, o_name, o_sub, o_par, o_par3, o_drop, o_ret, o_retN, o_ifS, o_sl, o_noPart, o_part, o_bm, o_bm0, o_m0, o_m1, o_dget, o_dput, o_din, o_dnotin, o_listKeys, e_bl, e_int, e_str, e_some, e_two, e_three, o_for, o_lc, o_iList, o_iTup, o_iRng1, e_int1, e_ref, o_yes, o_wipe0, o_wipe1, o_disp, o_dnew, o_pairs0, o_pairs1, o_lock, o_keysM, o_gtup, o_gcons, o_gnil, o_rU, o_tru, o_revT, o_enumT, o_from, true_and, if_pos, List.getElem?_cons_zero, List.getElem?_cons_succ, List.set_cons_zero, List.set_cons_succ, List.append_nil])
/-- the lists at s and e may have changed, no more -/
structure Ke (s e : Addr) (H H' : Hp) : Prop where
  keep : ∀ b o, H b = some o → b ≠ s → b ≠ e → H' b = some o
  l1 : ∃ xs, H' s = some (.lst xs)
  l2 : ∃ xs, H' e = some (.lst xs)
theorem Ke.tk {K : PySem.W.Frag} {s e : Addr} {H H' : Hp} {xs ys : List V} (k : Ke s e H H') (h1 : H s = some (.lst xs)) (h2 : H e = some (.lst ys)) : Tk K H H' := Tk.of fun a o h q => by
  refine k.keep a o h (fun z => ?_) (fun z => ?_)
  · subst z; rw [h1] at h; cases h; obtain ⟨_, q | ⟨_, q⟩⟩ := q <;> cases q
  · subst z; rw [h2] at h; cases h; obtain ⟨_, q | ⟨_, q⟩⟩ := q <;> cases q
theorem Ke.ok {K : PySem.W.Frag} {s e : Addr} {H H' : Hp} {xs ys : List V} (k : Ke s e H H') (h1 : H s = some (.lst xs)) (h2 : H e = some (.lst ys)) : ∀ v, Oth K H v → Oth K H' v := fun v hv => by
  cases hv with
  | non => exact .non
  | bl b => exact .bl b
  | int i => exact .int i
  | @lst a zs ha =>
    by_cases z : a = s
    · subst z; obtain ⟨_, h⟩ := k.l1; exact .lst h
    · by_cases z2 : a = e
      · subst z2; obtain ⟨_, h⟩ := k.l2; exact .lst h
      · exact .lst (k.keep _ _ ha z z2)
  | @dic a zs ha =>
    refine .dic (k.keep _ _ ha (fun z => ?_) (fun z => ?_))
    · subst z; rw [h1] at ha; cases ha
    · subst z; rw [h2] at ha; cases ha
theorem Ke.trans {s e : Addr} {H H1 H2 : Hp} (x : Ke s e H H1) (y : Ke s e H1 H2) : Ke s e H H2 := ⟨fun b o h n m => y.keep b o (x.keep b o h n m) n m, y.l1, y.l2⟩
theorem Ke.kp {s e : Addr} {H H1 H2 : Hp} (x : Ke s e H H1) (y : Kp H1 H2) : Ke s e H H2 := ⟨fun b o h n m => y b o (x.keep b o h n m), x.l1.imp fun _ h => y _ _ h, x.l2.imp fun _ h => y _ _ h⟩
section
variable {K : PySem.W.Frag}
theorem AtW.itm {H : Hp} {v : V} {x : WV} (h : AtW K H v x) : Itm K H v := by
  cases h with
  | txt h => exact .inl ⟨_, rfl, h⟩
  | oth h => exact .inr (.oth h)
  | tup h _ => exact .inr (.tup h)
def nmW : WV → Bool
  | .txt z => nameB z
  | _ => false
theorem AtW.isNm {H : Hp} {v : V} {x : WV} (h : AtW K H v x) : isNm v = nmW x := by
  cases h with
  | txt h => rfl
  | oth h => exact (Nt.oth h).isNm
  | tup h _ => exact (Nt.tup h).isNm
end
end Tw
set_option Elab.async false
set_option linter.all false
set_option maxRecDepth 100000
set_option maxHeartbeats 4000000
/-! what is a wish, looked at by itself -/
namespace Tw
open PySem PySem.Spec PyProof.Rows L2 TL
local macro_rules | `(tactic| walk_at "rd") => `(tactic| try simp only [o_op, o_un, o_var, o_c, o_cb, o_call, o_cons, o_nil, o_tup, o_lst, o_I0, o_I, o_int1, o_intb, o_abs, o_test, o_b, o_not, o_and, o_or, o_andV, o_orV, o_notV, o_ifE, o_isN, o_notN, o_eq, o_ne, o_seq, o_next, o_asg, o_name, o_sub, o_par, o_par3, o_drop, o_ret, o_retN, o_ifS, o_sl, o_noPart, o_part, o_bm, o_bm0, o_m0, o_m1, o_dget, o_dput, o_din, o_dnotin, o_listKeys, e_bl, e_int, e_str, e_some, e_two, e_three, o_for, o_lc, o_iList, o_iTup, o_iRng1, e_int1, e_ref, o_yes, o_wipe0, o_wipe1, o_disp, o_dnew, o_pairs0, o_pairs1, o_lock, o_keysM, o_gtup, o_gcons, o_gnil, o_rU, o_tru, o_revT, o_enumT, o_from, true_and, if_pos, List.getElem?_cons_zero, List.getElem?_cons_succ, List.set_cons_zero, List.set_cons_succ, List.append_nil])
/-- what the items behind a word stand for -/
def wformsL : List (Str × Str) := [("in", "nn"), ("ahead", "nn"), ("here", "n"), ("and", "ww"), ("or", "ww"), ("not", "w")]
/-- names (else wishes) -/
def nT (t : Str) : Bool := decide (110 ∈ t.cps.toList)
/-- a wish's own error -/
def ownE : WV → Option Str
  | .tup (.txt w :: r) => match wformsL.find? (fun q => decide (q.1 = w)) with
    | none => some "wish"
    | some q => if r.length = q.2.length then (if nT q.2 = true then (if r.all nmW = true then none else some "name") else none) else some "wish"
  | _ => some "wish"
section
variable {K : PySem.W.Frag} {w : World} {F__FORMS : Addr}
end
end Tw
set_option Elab.async false
set_option linter.all false
set_option maxRecDepth 100000
set_option maxHeartbeats 4000000
/-! why a value is no wish -/
namespace Tw
open PySem PySem.Spec PyProof.Rows L2 TL
local macro_rules | `(tactic| walk_at "rd") => `(tactic| try simp only [o_op, o_un, o_var, o_c, o_cb, o_call, o_cons, o_nil, o_tup, o_lst, o_I0, o_I, o_int1, o_intb, o_abs, o_test, o_b, o_not, o_and, o_or, o_andV, o_orV, o_notV, o_ifE, o_isN, o_notN, o_eq, o_ne, o_seq, o_next, o_asg, o_name, o_sub, o_par, o_par3, o_drop, o_ret, o_retN, o_ifS, o_sl, o_noPart, o_part, o_bm, o_bm0, o_m0, o_m1, o_dget, o_dput, o_din, o_dnotin, o_listKeys, e_bl, e_int, e_str, e_some, e_two, e_three, o_for, o_lc, o_iList, o_iTup, o_iRng1, e_int1, e_ref, o_yes, o_wipe0, o_wipe1, o_disp, o_dnew, o_pairs0, o_pairs1, o_lock, o_keysM, o_gtup, o_gcons, o_gnil, o_rU, o_tru, o_revT, o_enumT, o_from, true_and, if_pos, List.getElem?_cons_zero, List.getElem?_cons_succ, List.set_cons_zero, List.set_cons_succ, List.append_nil])
/-- the parts of a right wish's head -/
def partsW : WV → List WV
  | .tup (.txt w :: r) => match wformsL.find? (fun q => decide (q.1 = w)) with
    | none => []
    | some q => if nT q.2 = true then [] else r
  | _ => []
/-- as far as fuel goes: why, how many wishes, how deep -/
def chk : Nat → List (List Nat × WV) → Nat → Nat → Option (List Nat × Str) × Nat × Nat
  | _, [], n, d => (none, n, d)
  | 0, _ :: _, n, d => (none, n, d)
  | fuel + 1, (pl, x) :: st, n, d => match ownE x with
    | some w => (some (pl, w), n, d)
    | none => chk fuel ((partsW x).zipIdx.map (fun y => (pl ++ [y.2], y.1)) ++ st) (n + 1) (max d (pl.length + 1))
def szS (st : List (List Nat × WV)) : Nat := WV.szs (st.map (·.2))
/-- what is still to be looked at: where it lies, itself -/
def StW (K : PySem.W.Frag) (H : Hp) : List V → List (List Nat × WV) → Prop := L2R fun v t => ∃ p q tv, v = .ref p ∧ SqT K H p [.ref q, tv] ∧ SqT K H q (t.1.map fun k => V.int (k : Nat)) ∧ AtW K H tv t.2
section
variable {K : PySem.W.Frag}
theorem StW.mono {H H' : Hp} (t : Tk K H H') (o : ∀ v, Oth K H v → Oth K H' v) {ws : List V} {st : List (List Nat × WV)} (h : StW K H ws st) : StW K H' ws st :=
  L2R.mono (fun _ _ ⟨p, q, tv, e, h, h2, a⟩ => ⟨p, q, tv, e, t _ _ h, t _ _ h2, a.mono t o⟩) h
theorem StW.kp {H H' : Hp} (k : Kp H H') {ws : List V} {st : List (List Nat × WV)} (h : StW K H ws st) : StW K H' ws st := h.mono (Tk.kp k) fun _ h => h.kp k
end
end Tw
set_option Elab.async false
set_option linter.all false
set_option maxRecDepth 100000
set_option maxHeartbeats 4000000
/-! the program's wishes: right ones -/
namespace Tw
open PySem PySem.Spec PyProof.Rows L2 TL
local macro_rules | `(tactic| walk_at "wp") => `(tactic| try simp (config := { maxSteps := 1000000 }) only [↓w_SE_var, ↓w_SE_non, ↓w_SE_bl, ↓w_SE_int, ↓w_SE_str, ↓w_SE_op, ↓w_SE_un, ↓w_SE_cb, ↓w_SE_tup, ↓w_SE_lst, ↓w_SE_ifE, ↓w_SE_isN, ↓w_SE_notN, ↓w_SA_nil, ↓w_SA_cons, ↓w_ST_not, ↓w_ST_and, ↓w_ST_or, ↓w_ST_yes, ↓w_ST_tru, ↓w_SG_name, ↓w_SS_next, ↓w_SS_brk, ↓w_SS_cont, ↓w_SS_never, ↓w_SS_seq, ↓w_SS_cut, ↓w_SS_asg, ↓w_SS_drop, ↓w_SS_ret, ↓w_SS_retN, ↓w_SS_ifS, ↓w_SS_for_, ↓w_SS_while_, ↓w_SN_lst, ↓w_SE_nl, ↓w_SS_own, ↓w_SN_lc, ↓w_SE_call, ↓w_SE_callS, ↓w_SE_pop, ↓w_SP__no, ↓w_SS_raise0, ↓w_SS_raise1, ↓w_SS_raise2, ↓w_SS_tryO, ↓w_SS_tryA, ↓w_SS_tryM, ↓w_SE_xf, ↓w_SE_isE, ↓w_SE_popAt, ↓w_SN_slO, ↓w_SN_sortedS, ↓w_SN_sortedI, ↓w_SS_asg2, ↓w_SS_par, ↓w_SE_joined, ↓w_SE_join, ↓w_SE_txtB, ↓w_SE_lenSetT, ↓w_SE_chain, ↓w_SO_inSign, ↓w_SO_eqE, ↓w_SB_all_, ↓w_SB_repr, ↓c_i0, ↓c_c0, ↓c_iC, ↓c_addS, ↓c_repS, ↓c_catT, ↓c_ixS, ↓c_ixT, ↓c_ixL, ↓c_eq_ii, ↓c_eq_ss, ↓c_eq_ns, ↓c_eq_sn, ↓c_eq_bb, ↓c_eq_nn, ↓c_eq_ni, ↓c_eq_in, ↓c_ne_ii, ↓c_ne_ss, ↓c_ne_bb, ↓c_ne_ns, ↓c_ne_sn, ↓c_ne_nn, ↓c_ne_ni, ↓c_ne_in, ↓c_inST, ↓c_inSL, ↓c_lenS, ↓c_lenQt, ↓c_lenQl, ↓c_abs, ↓c_int1i, ↓c_int1b, ↓c_tupl, ↓c_tupt, ↓c_max2, ↓c_min2, ↓c_neg, ↓c_tst, ↓c_asI, ↓c_asS, ↓c_asT, ↓c_asL, ↓c_asQl, ↓c_asQt, ↓o_tt, ↓o_ts, ↓o_tl, ↓o_ti, ↓o_st, ↓o_ss, ↓o_sl_, ↓o_si, ↓o_lt, ↓o_ls, ↓o_ll, ↓o_li, ↓o_it, ↓o_is, ↓o_il, ↓o_ii, ↓o_bt, ↓o_bs, ↓o_bl_, ↓o_bi, ↓o_nt, ↓o_ns, ↓o_nl, ↓o_ni, ↓o_dt, ↓o_ds, ↓o_dl, ↓o_di, ↓v_test, ↓v_b, ↓v_andV, ↓v_orV, ↓v_notV, ↓v_isi, ↓v_at, ↓v_slS, ↓v_slT, ↓v_slL, ↓v_listOf, ↓v_revL, ↓v_revT, ↓v_cat, ↓v_rep, ↓v_ilist, ↓v_itup, ↓v_istr, ↓v_enumL, ↓v_enumT, ↓v_rng1, ↓v_rng2, ↓c_rng1, ↓c_rng2, ↓v_zipA, ↓c_zipt, ↓c_zipl, ↓v_gtup, ↓c_unp, ↓v_gunl, ↓c_unpL, ↓v_fmt, ↓c_fmts, ↓c_fmti, ↓v_js, ↓v_lenO, ↓v_tupO, ↓v_listO, ↓v_truO, ↓v_eqEO, ↓v_append, ↓v_ixO, ↓v_extendT, ↓v_extendL, ↓v_insert, ↓v_setL, ↓v_inO, ↓v_v0, ↓v_v0o, ↓v_v0d, ↓v_vs, ↓v_o0, ↓v_os, ↓v_d0, ↓v_ds, tr_non, tr_bl, tr_int, tr_str, tr_tup, tr_lst, tr_dic, in_non, in_bl, in_int, in_str, in_tup, in_lst, in_dic, we_nil, we_cons, sl_name, sl_tup, sl_unl, sa_nil, sa_cons, pr_val, pr_own, st_app, st_nil, js_nil, ↓w_for0, ↓w_for1, List.getElem?_cons_zero, List.getElem?_cons_succ, List.set_cons_zero, List.set_cons_succ, List.length_cons, List.length_nil, List.replicate_succ, List.replicate_zero, if_true, Bool.not_true, Bool.not_false, Bool.false_eq_true, if_false, ite_true, ite_false, decide_true, decide_false, Nat.reduceSub, Nat.reduceAdd, Nat.zero_add, true_and, and_true, ↓w_SE_tupF, ↓w_SE_slF, ↓w_SE_tupleF, ↓w_SE_idxF, ↓c_catF, ↓c_inF, ↓c_ixF, ↓c_lenF, ↓w_SI_frt, ↓c_asF, ↓w_SE_nl, ↓w_SE_dget, ↓w_SE_idxL, ↓w_SE_tabIxI, ↓w_SE_inTabI, ↓c_isntB, ↓w_SB_any_, ↓w_SE_din, ↓w_SE_dc])
local macro_rules | `(tactic| walk_at "wq") => `(tactic| try simp (config := { maxSteps := 1000000 }) only [↓w_SE_var, ↓w_SE_non, ↓w_SE_bl, ↓w_SE_int, ↓w_SE_str, ↓w_SE_op, ↓w_SE_un, ↓w_SE_cb, ↓w_SE_tup, ↓w_SE_lst, ↓w_SE_ifE, ↓w_SE_isN, ↓w_SE_notN, ↓w_SA_nil, ↓w_SA_cons, ↓w_ST_not, ↓w_ST_and, ↓w_ST_or, ↓w_ST_yes, ↓w_ST_tru, ↓w_SG_name, ↓w_SS_next, ↓w_SS_brk, ↓w_SS_cont, ↓w_SS_never, ↓w_SS_seq, ↓w_SS_cut, ↓w_SS_asg, ↓w_SS_drop, ↓w_SS_ret, ↓w_SS_retN, ↓w_SS_ifS, ↓w_SS_for_, ↓w_SS_while_, ↓w_SN_lst, ↓w_SE_nl, ↓w_SS_own, ↓w_SN_lc, ↓w_SE_call, ↓w_SE_callS, ↓w_SE_pop, ↓w_SP__no, ↓w_SS_raise0, ↓w_SS_raise1, ↓w_SS_raise2, ↓w_SS_tryO, ↓w_SS_tryA, ↓w_SS_tryM, ↓w_SE_xf, ↓w_SE_isE, ↓w_SE_popAt, ↓w_SN_slO, ↓w_SN_sortedS, ↓w_SN_sortedI, ↓w_SS_asg2, ↓w_SS_par, ↓w_SE_joined, ↓w_SE_join, ↓w_SE_txtB, ↓w_SE_lenSetT, ↓w_SE_chain, ↓w_SO_inSign, ↓w_SO_eqE, ↓w_SB_all_, ↓w_SB_repr, ↓c_i0, ↓c_c0, ↓c_iC, ↓c_addS, ↓c_repS, ↓c_catT, ↓c_ixS, ↓c_ixT, ↓c_ixL, ↓c_eq_ii, ↓c_eq_ss, ↓c_eq_ns, ↓c_eq_sn, ↓c_eq_bb, ↓c_eq_nn, ↓c_eq_ni, ↓c_eq_in, ↓c_ne_ii, ↓c_ne_ss, ↓c_ne_bb, ↓c_ne_ns, ↓c_ne_sn, ↓c_ne_nn, ↓c_ne_ni, ↓c_ne_in, ↓c_inST, ↓c_inSL, ↓c_lenS, ↓c_lenQt, ↓c_lenQl, ↓c_abs, ↓c_int1i, ↓c_int1b, ↓c_tupl, ↓c_tupt, ↓c_max2, ↓c_min2, ↓c_neg, ↓c_tst, ↓c_asI, ↓c_asS, ↓c_asT, ↓c_asL, ↓c_asQl, ↓c_asQt, ↓o_tt, ↓o_ts, ↓o_tl, ↓o_ti, ↓o_st, ↓o_ss, ↓o_sl_, ↓o_si, ↓o_lt, ↓o_ls, ↓o_ll, ↓o_li, ↓o_it, ↓o_is, ↓o_il, ↓o_ii, ↓o_bt, ↓o_bs, ↓o_bl_, ↓o_bi, ↓o_nt, ↓o_ns, ↓o_nl, ↓o_ni, ↓o_dt, ↓o_ds, ↓o_dl, ↓o_di, ↓v_test, ↓v_b, ↓v_andV, ↓v_orV, ↓v_notV, ↓v_isi, ↓v_at, ↓v_slS, ↓v_slT, ↓v_slL, ↓v_listOf, ↓v_revL, ↓v_revT, ↓v_cat, ↓v_rep, ↓v_ilist, ↓v_itup, ↓v_istr, ↓v_enumL, ↓v_enumT, ↓v_rng1, ↓v_rng2, ↓c_rng1, ↓c_rng2, ↓v_zipA, ↓c_zipt, ↓c_zipl, ↓v_gtup, ↓c_unp, ↓v_gunl, ↓c_unpL, ↓v_fmt, ↓c_fmts, ↓c_fmti, ↓v_js, ↓v_lenO, ↓v_tupO, ↓v_listO, ↓v_truO, ↓v_eqEO, ↓v_append, ↓v_ixO, ↓v_extendT, ↓v_extendL, ↓v_insert, ↓v_setL, ↓v_inO, ↓v_v0, ↓v_v0o, ↓v_v0d, ↓v_vs, ↓v_o0, ↓v_os, ↓v_d0, ↓v_ds, tr_non, tr_bl, tr_int, tr_str, tr_tup, tr_lst, tr_dic, in_non, in_bl, in_int, in_str, in_tup, in_lst, in_dic, we_nil, we_cons, sl_name, sl_tup, sl_unl, sa_nil, sa_cons, pr_val, pr_own, st_app, st_nil, js_nil, List.getElem?_cons_zero, List.getElem?_cons_succ, List.set_cons_zero, List.set_cons_succ, List.length_cons, List.length_nil, List.replicate_succ, List.replicate_zero, if_true, Bool.not_true, Bool.not_false, Bool.false_eq_true, if_false, ite_true, ite_false, decide_true, decide_false, Nat.reduceSub, Nat.reduceAdd, Nat.zero_add, true_and, and_true, ↓w_SE_tupF, ↓w_SE_slF, ↓w_SE_tupleF, ↓w_SE_idxF, ↓c_catF, ↓c_inF, ↓c_ixF, ↓c_lenF, ↓w_SI_frt, ↓c_asF, ↓w_SE_nl, ↓w_SO_eqE, ↓w_SE_dget, ↓w_SE_idxL, ↓w_SE_tabIxI, ↓w_SE_inTabI, ↓c_isntB, ↓w_SB_any_, ↓w_SE_din, ↓w_SE_dc])
/-- within the limits -/
structure Wi.Ok (u : Wi) : Prop where
  dp : u.dp ≤ 5
  ct : u.ct ≤ 12
  nm : ∀ z ∈ u.nms, IsName z
/-! a right wish as a value of any kind -/
namespace Wi
def wv : Wi → WV
  | .in_ a b => .tup [.txt "in", .txt a, .txt b]
  | .ahead a b => .tup [.txt "ahead", .txt a, .txt b]
  | .here a => .tup [.txt "here", .txt a]
  | .not u => .tup [.txt "not", u.wv]
  | .and u v => .tup [.txt "and", u.wv, v.wv]
  | .or u v => .tup [.txt "or", u.wv, v.wv]
end Wi
/-! ### why it is no wish: it is one -/
section
variable {K : PySem.W.Frag} [Tbs K] {dk : Option Addr} {F : Addr → Prop} {H : Hp}
end
section
variable {K : PySem.W.Frag} [Tbs K]
/-! ### places -/
/-! ### whether it is so -/
end
end Tw
set_option Elab.async false
set_option linter.all false
set_option maxRecDepth 100000
set_option maxHeartbeats 4000000
/-! plain layer: x is True of anything, max of a list, strip of signs, repr of anything; values of any kind -/
namespace Tw
open PySem PySem.Spec PyProof.Rows L2 TL
/-! ### is -/
def VBl : V → Bool
  | .non => true | .bl _ => true | .int _ => true | .str _ => true | .ref _ => true | _ => false
def rIsAny : R2 := fun x y H Q => ∃ b : Bool, y = .bl b ∧ VBl x = true ∧ Q (.bl (decide (x = .bl b))) H
def PV.isB (x : PV) (b : Bool) : Bool := match x with
  | .bl a => decide (a = b)
  | _ => false
namespace SO
variable {K : PySem.W.Frag} [Tbs K]
/-- x is True, x is False -/
def isAny : SO K where
  rd := rIsAny
  wp := fun x y P => ∃ b : Bool, y = .bl b ∧ P (.bl (x.isB b))
  ok := by
    rintro dk F0 H0 F σ H ρ v w x y P Q I r1 r2 ⟨b, rfl, h⟩ q
    cases r2
    have e : VBl v = true ∧ decide (v = .bl b) = x.isB b := by
      cases r1 with
      | bl a =>
        refine ⟨rfl, ?_⟩
        show decide (V.bl a = V.bl b) = decide (a = b)
        by_cases e : a = b
        · rw [decide_eq_true e, decide_eq_true (by rw [e])]
        · rw [decide_eq_false e, decide_eq_false (fun z => e (V.bl.inj z))]
      | _ => exact ⟨rfl, rfl⟩
    exact ⟨b, rfl, e.1, by rw [e.2]; exact q _ _ _ _ Grow.refl I (.bl _) h⟩
end SO
/-! ### max of an own list of ints -/
namespace SE
variable {K : PySem.W.Frag} [Tbs K]
/-- max(xs) of an own list -/
def maxO (i : Nat) : SE K where
  rd := fun E => tCB (rMax K) (tCons (tVar i) tNil)
  wp := fun _ ρ P => ∃ ns : List Int, ρ[i]? = some (.own (ns.map .int)) ∧ 0 < ns.length ∧ ∀ m, m ∈ ns → (∀ y ∈ ns, y ≤ m) → P (.int m) ρ
  ok := by
    intro dk F0 H0 F σ H ρ E PE P Q I e h q
    obtain ⟨ns, hi, hn, h⟩ := h
    obtain ⟨a, vs, ha, ea, ra, oa⟩ := I.ownL hi
    have := ra.ints; subst this
    exact ⟨_, ha, a, ns, rfl, SqL.of ea, hn, fun m h1 h2 => q _ _ _ _ _ Grow.refl I (.int m) (h m h1 h2)⟩
/-- x.strip(y) -/
def stripC (a b : SE K) : SE K where
  rd := fun E => tM1 (fun x xs H Q => ∃ a b, x = .str a ∧ xs = [.str b] ∧ a.length ≤ sizeLine ∧ Q (.str (Txt.stripChars a b)) H) (a.rd E) (b.rd E)
  wp := fun PE ρ P => a.wp PE ρ fun x ρ1 => ∃ z : Str, x = .str z ∧ b.wp PE ρ1 fun y ρ2 => ∃ w : Str, y = .str w ∧ z.length ≤ sizeLine ∧ P (.str (Txt.stripChars z w)) ρ2
  ok := by
    intro dk F0 H0 F σ H ρ E PE P Q I e h q
    refine a.ok I e h fun v H1 F1 x ρ1 g1 I1 r1 h1 => ?_
    obtain ⟨z, rfl, h1⟩ := h1
    cases r1
    refine ⟨⟨z, rfl⟩, b.ok I1 (e.grow g1) h1 fun w H2 F2 y ρ2 g2 I2 r2 h2 => ?_⟩
    obtain ⟨u, rfl, hz, h2⟩ := h2
    cases r2
    exact ⟨z, u, rfl, rfl, hz, q _ _ _ _ _ (g1.trans g2) I2 (.str _) h2⟩
end SE
/-! ### repr of a list, a tuple, None -/
def rReprA (K : PySem.W.Frag) [Tbs K] : List V → Hp → VK → Prop := fun xs H Q => (xs = [.non] ∧ Q (.str "None") H) ∨ rReprL K xs H Q
namespace SB
variable {K : PySem.W.Frag} [Tbs K]
def reprA : SB K where
  rd := rReprA K
  wp := fun xs P => ∃ x, xs = [x] ∧ ((x = .non ∧ P (.str "None")) ∨ ((∃ ys, x = .lst ys ∨ x = .tup ys) ∧ x.plain = true ∧ x.pd.showable = true ∧ x.pd.hasDict = false ∧ x.pd.depth ≤ 350 ∧ x.pd.shown.length ≤ sizeLine ∧ P (.str x.pd.shown)))
  ok := by
    rintro dk F0 H0 F σ H ρ vs xs P Q I r ⟨x, rfl, h⟩ q
    cases r with
    | cons r1 r2 =>
      cases r2
      rcases h with ⟨rfl, h⟩ | ⟨⟨ys, hx⟩, a, b, c, d, e, h⟩
      · cases r1
        exact .inl ⟨rfl, q _ _ _ _ Grow.refl I (.str _) h⟩
      · rcases hx with rfl | rfl
        · cases r1 with
          | lst f s l => exact .inr ⟨_, _, rfl, Rep.dp (.lst f s l) a, b, c, d, e, q _ _ _ _ Grow.refl I (.str _) h⟩
        · cases r1 with
          | tup s l => exact .inr ⟨_, _, rfl, Rep.dp (.tup s l) a, b, c, d, e, q _ _ _ _ Grow.refl I (.str _) h⟩
end SB
section
variable {K : PySem.W.Frag} [Tbs K] {PE : PEK} {ρ : Tw.Env} {Q : PV → Tw.Env → Prop} {P : PV → Prop} {a b : SE K}
theorem c_isAny {x : PV} {b : Bool} : (SO.isAny : SO K).wp x (.bl b) P = P (.bl (x.isB b)) := by
  apply propext; constructor
  · rintro ⟨d, e2, h⟩; cases e2; exact h
  · intro h; exact ⟨b, rfl, h⟩
theorem w_SE_maxO {i : Nat} : (SE.maxO i : SE K).wp PE ρ Q = (∃ ns : List Int, ρ[i]? = some (.own (ns.map .int)) ∧ 0 < ns.length ∧ ∀ m, m ∈ ns → (∀ y ∈ ns, y ≤ m) → Q (.int m) ρ) := rfl
theorem w_SE_stripC : (SE.stripC a b).wp PE ρ Q = (a.wp PE ρ fun x ρ1 => ∃ z : Str, x = .str z ∧ b.wp PE ρ1 fun y ρ2 => ∃ w : Str, y = .str w ∧ z.length ≤ sizeLine ∧ Q (.str (Txt.stripChars z w)) ρ2) := rfl
theorem w_SB_reprA {xs : List PV} : (SB.reprA : SB K).wp xs P = (∃ x, xs = [x] ∧ ((x = .non ∧ P (.str "None")) ∨ ((∃ ys, x = .lst ys ∨ x = .tup ys) ∧ x.plain = true ∧ x.pd.showable = true ∧ x.pd.hasDict = false ∧ x.pd.depth ≤ 350 ∧ x.pd.shown.length ≤ sizeLine ∧ P (.str x.pd.shown)))) := rfl
end
/-! ### values of any kind -/
mutual
def PV.wv : PV → WV
  | .str z => .txt z
  | .tup l => .tup (PV.wvs l)
  | _ => .oth
def PV.wvs : List PV → List WV
  | [] => []
  | x :: l => x.wv :: PV.wvs l
end
mutual
/-- nothing but what a law draws -/
def PV.vok : PV → Bool
  | .str z => decide (z.length ≤ 1000)
  | .tup l => PV.voks l
  | .deck => false
  | .frt _ => false
  | _ => true
def PV.voks : List PV → Bool
  | [] => true
  | x :: l => x.vok && PV.voks l
end
theorem voks_iff : ∀ l : List PV, PV.voks l = true ↔ ∀ x ∈ l, x.vok = true
  | [] => by simp [PV.voks]
  | x :: l => by simp [PV.voks, voks_iff l]
section
variable {K : PySem.W.Frag} [Tbs K] {dk : Option Addr} {F : Addr → Prop} {H : Hp}
mutual
theorem rep_atw : ∀ {v : V} {x : PV}, Rep K dk F H v x → x.vok = true → AtW K H v x.wv
  | _, _, .non, _ => .oth .non
  | _, _, .bl b, _ => .oth (.bl b)
  | _, _, .int i, _ => .oth (.int i)
  | _, _, .str x, h => .txt (of_decide_eq_true h)
  | _, _, .tup s r, h => .tup s (rep_its r h)
  | _, _, .lst f e r, _ => .oth (.lst e)
  | _, _, .dic f e r, _ => .oth (.dic e)
  | _, _, .deck e, h => by cases h
  | _, _, .frt s t r, h => by cases h
theorem rep_its : ∀ {vs : List V} {l : List PV}, RepL K dk F H vs l → PV.voks l = true → Its K H vs (PV.wvs l)
  | _, _, .nil, _ => .nil
  | _, _, .cons r t, h => by
    have h' := Bool.and_eq_true_iff.mp h
    exact .cons (rep_atw r h'.1) (rep_its t h'.2)
end
end
/-! ### a value without an error is a right wish -/
/-! ### data with dicts among it -/
def keyX : Key → PyData
  | .inl i => .int i
  | .inr x => .str x
mutual
def PV.pdX : PV → PyData
  | .non => .none
  | .bl b => .bool b
  | .int i => .int i
  | .str x => .str x
  | .tup xs => .tuple (PV.pdXs xs)
  | .lst xs => .list (PV.pdXs xs)
  | .dic kvs => .dict (PV.pdXk kvs)
  | .deck => .none
  | .frt xs => .tuple (PV.pdXs xs)
def PV.pdXs : List PV → List PyData
  | [] => []
  | x :: xs => PV.pdX x :: PV.pdXs xs
def PV.pdXk : List (Key × PV) → List (PyData × PyData)
  | [] => []
  | (k, x) :: xs => (keyX k, PV.pdX x) :: PV.pdXk xs
end
mutual
def PV.plX : PV → Bool
  | .tup xs => PV.plXs xs
  | .lst xs => PV.plXs xs
  | .dic kvs => PV.plXk kvs
  | .deck => false
  | .frt xs => PV.plXs xs
  | _ => true
def PV.plXs : List PV → Bool
  | [] => true
  | x :: xs => PV.plX x && PV.plXs xs
def PV.plXk : List (Key × PV) → Bool
  | [] => true
  | (_, x) :: xs => PV.plX x && PV.plXk xs
end
theorem plXs_iff : ∀ l : List PV, PV.plXs l = true ↔ ∀ x ∈ l, x.plX = true
  | [] => by simp [PV.plXs]
  | x :: l => by simp [PV.plXs, plXs_iff l]
theorem showAll_iff : ∀ l : List PV, PyData.showableAll (PV.pdXs l) = true ↔ ∀ x ∈ l, x.pdX.showable = true
  | [] => by simp [PV.pdXs, PyData.showableAll]
  | x :: l => by simp [PV.pdXs, PyData.showableAll, showAll_iff l]
theorem leavesAll_iff : ∀ l : List PV, PyData.leavesShortAll 13 (PV.pdXs l) = true ↔ ∀ x ∈ l, x.pdX.leavesShort 13 = true
  | [] => by simp [PV.pdXs, PyData.leavesShortAll]
  | x :: l => by simp [PV.pdXs, PyData.leavesShortAll, leavesAll_iff l]
theorem depthAll_le : ∀ (l : List PV) (d : Nat), (∀ x ∈ l, x.pdX.depth ≤ d) → PyData.depthAll (PV.pdXs l) ≤ d
  | [], _, _ => Nat.zero_le _
  | x :: l, d, h => by
    simp only [PV.pdXs, PyData.depthAll]
    exact Nat.max_le.mpr ⟨h x (List.mem_cons_self ..), depthAll_le l d fun y q => h y (List.mem_cons_of_mem _ q)⟩
/-- the weights of some values -/
def wtS (l : List PV) : Nat := PyData.weightAll (PV.pdXs l)
/-- it can be drawn and shown: how great, how heavy, how deep -/
structure SpV (x : PV) (n w d : Nat) : Prop where
  vok : x.vok = true
  sz : x.wv.sz ≤ n
  pl : x.plX = true
  sh : x.pdX.showable = true
  lv : x.pdX.leavesShort 13 = true
  wt : x.pdX.weight ≤ w
  dp : x.pdX.depth ≤ d
theorem SpV.mono {x : PV} {n w d n' w' d' : Nat} (h : SpV x n w d) (h1 : n ≤ n') (h2 : w ≤ w') (h3 : d ≤ d') : SpV x n' w' d' := ⟨h.vok, Nat.le_trans h.sz h1, h.pl, h.sh, h.lv, Nat.le_trans h.wt h2, Nat.le_trans h.dp h3⟩
theorem SpV.tup {l : List PV} {n w d : Nat} (h : ∀ x ∈ l, ∃ n w, SpV x n w d) (hn : WV.szs (PV.wvs l) ≤ n) (hw : wtS l ≤ w) : SpV (.tup l) (n + 1) w (d + 1) where
  vok := (voks_iff l).mpr fun x q => by obtain ⟨_, _, s⟩ := h x q; exact s.vok
  sz := by show 1 + WV.szs (PV.wvs l) ≤ _; omega
  pl := (plXs_iff l).mpr fun x q => by obtain ⟨_, _, s⟩ := h x q; exact s.pl
  sh := by simp only [PV.pdX, PyData.showable]; exact (showAll_iff l).mpr fun x q => by obtain ⟨_, _, s⟩ := h x q; exact s.sh
  lv := by simp only [PV.pdX, PyData.leavesShort]; exact (leavesAll_iff l).mpr fun x q => by obtain ⟨_, _, s⟩ := h x q; exact s.lv
  wt := by simp only [PV.pdX, PyData.weight]; exact hw
  dp := by simp only [PV.pdX, PyData.depth]; exact Nat.succ_le_succ (depthAll_le l d fun x q => by obtain ⟨_, _, s⟩ := h x q; exact s.dp)
theorem SpV.lst {l : List PV} {w d : Nat} (h : ∀ x ∈ l, ∃ n w, SpV x n w d) (hw : wtS l ≤ w) : SpV (.lst l) 1 w (d + 1) where
  vok := rfl
  sz := Nat.le_refl 1
  pl := (plXs_iff l).mpr fun x q => by obtain ⟨_, _, s⟩ := h x q; exact s.pl
  sh := by simp only [PV.pdX, PyData.showable]; exact (showAll_iff l).mpr fun x q => by obtain ⟨_, _, s⟩ := h x q; exact s.sh
  lv := by simp only [PV.pdX, PyData.leavesShort]; exact (leavesAll_iff l).mpr fun x q => by obtain ⟨_, _, s⟩ := h x q; exact s.lv
  wt := by simp only [PV.pdX, PyData.weight]; exact hw
  dp := by simp only [PV.pdX, PyData.depth]; exact Nat.succ_le_succ (depthAll_le l d fun x q => by obtain ⟨_, _, s⟩ := h x q; exact s.dp)
theorem SpV.str {z : Str} (h : PyData.strOk z = true) (hl : z.length ≤ 1000) : SpV (.str z) 1 z.length 0 := by
  refine ⟨decide_eq_true hl, Nat.le_refl 1, rfl, rfl, ?_, Nat.le_refl _, Nat.le_refl _⟩
  have := PyData.leavesShort_of_canLay0 13 (.str z) (by simp only [PyData.canLay0]; exact h) rfl
  exact this
end Tw
set_option Elab.async false
set_option linter.all false
set_option maxRecDepth 100000
set_option maxHeartbeats 4000000
/-! law k51: wishes of woods -/
namespace Tw
open PySem PySem.Spec PyProof.Rows L2 TL
local macro_rules | `(tactic| walk_at "wp") => `(tactic| try simp (config := { maxSteps := 1000000 }) only [↓w_SE_var, ↓w_SE_non, ↓w_SE_bl, ↓w_SE_int, ↓w_SE_str, ↓w_SE_op, ↓w_SE_un, ↓w_SE_cb, ↓w_SE_tup, ↓w_SE_lst, ↓w_SE_ifE, ↓w_SE_isN, ↓w_SE_notN, ↓w_SA_nil, ↓w_SA_cons, ↓w_ST_not, ↓w_ST_and, ↓w_ST_or, ↓w_ST_yes, ↓w_ST_tru, ↓w_SG_name, ↓w_SS_next, ↓w_SS_brk, ↓w_SS_cont, ↓w_SS_never, ↓w_SS_seq, ↓w_SS_cut, ↓w_SS_asg, ↓w_SS_drop, ↓w_SS_ret, ↓w_SS_retN, ↓w_SS_ifS, ↓w_SS_for_, ↓w_SS_while_, ↓w_SN_lst, ↓w_SE_nl, ↓w_SS_own, ↓w_SN_lc, ↓w_SE_call, ↓w_SE_callS, ↓w_SE_pop, ↓w_SP__no, ↓w_SS_raise0, ↓w_SS_raise1, ↓w_SS_raise2, ↓w_SS_tryO, ↓w_SS_tryA, ↓w_SS_tryM, ↓w_SE_xf, ↓w_SE_isE, ↓w_SE_popAt, ↓w_SN_slO, ↓w_SN_sortedS, ↓w_SN_sortedI, ↓w_SS_asg2, ↓w_SS_par, ↓w_SE_joined, ↓w_SE_join, ↓w_SE_txtB, ↓w_SE_lenSetT, ↓w_SE_chain, ↓w_SO_inSign, ↓w_SO_eqE, ↓w_SB_all_, ↓w_SB_repr, ↓c_i0, ↓c_c0, ↓c_iC, ↓c_addS, ↓c_repS, ↓c_catT, ↓c_ixS, ↓c_ixT, ↓c_ixL, ↓c_eq_ii, ↓c_eq_ss, ↓c_eq_ns, ↓c_eq_sn, ↓c_eq_bb, ↓c_eq_nn, ↓c_eq_ni, ↓c_eq_in, ↓c_ne_ii, ↓c_ne_ss, ↓c_ne_bb, ↓c_ne_ns, ↓c_ne_sn, ↓c_ne_nn, ↓c_ne_ni, ↓c_ne_in, ↓c_inST, ↓c_inSL, ↓c_lenS, ↓c_lenQt, ↓c_lenQl, ↓c_abs, ↓c_int1i, ↓c_int1b, ↓c_tupl, ↓c_tupt, ↓c_max2, ↓c_min2, ↓c_neg, ↓c_tst, ↓c_asI, ↓c_asS, ↓c_asT, ↓c_asL, ↓c_asQl, ↓c_asQt, ↓o_tt, ↓o_ts, ↓o_tl, ↓o_ti, ↓o_st, ↓o_ss, ↓o_sl_, ↓o_si, ↓o_lt, ↓o_ls, ↓o_ll, ↓o_li, ↓o_it, ↓o_is, ↓o_il, ↓o_ii, ↓o_bt, ↓o_bs, ↓o_bl_, ↓o_bi, ↓o_nt, ↓o_ns, ↓o_nl, ↓o_ni, ↓o_dt, ↓o_ds, ↓o_dl, ↓o_di, ↓v_test, ↓v_b, ↓v_andV, ↓v_orV, ↓v_notV, ↓v_isi, ↓v_at, ↓v_slS, ↓v_slT, ↓v_slL, ↓v_listOf, ↓v_revL, ↓v_revT, ↓v_cat, ↓v_rep, ↓v_ilist, ↓v_itup, ↓v_istr, ↓v_enumL, ↓v_enumT, ↓v_rng1, ↓v_rng2, ↓c_rng1, ↓c_rng2, ↓v_zipA, ↓c_zipt, ↓c_zipl, ↓v_gtup, ↓c_unp, ↓v_gunl, ↓c_unpL, ↓v_fmt, ↓c_fmts, ↓c_fmti, ↓v_js, ↓v_lenO, ↓v_tupO, ↓v_listO, ↓v_truO, ↓v_eqEO, ↓v_append, ↓v_ixO, ↓v_extendT, ↓v_extendL, ↓v_insert, ↓v_setL, ↓v_inO, ↓v_v0, ↓v_v0o, ↓v_v0d, ↓v_vs, ↓v_o0, ↓v_os, ↓v_d0, ↓v_ds, tr_non, tr_bl, tr_int, tr_str, tr_tup, tr_lst, tr_dic, in_non, in_bl, in_int, in_str, in_tup, in_lst, in_dic, we_nil, we_cons, sl_name, sl_tup, sl_unl, sa_nil, sa_cons, pr_val, pr_own, st_app, st_nil, js_nil, ↓w_for0, ↓w_for1, List.getElem?_cons_zero, List.getElem?_cons_succ, List.set_cons_zero, List.set_cons_succ, List.length_cons, List.length_nil, List.replicate_succ, List.replicate_zero, if_true, Bool.not_true, Bool.not_false, Bool.false_eq_true, if_false, ite_true, ite_false, decide_true, decide_false, Nat.reduceSub, Nat.reduceAdd, Nat.zero_add, true_and, and_true, ↓w_SE_tupF, ↓w_SE_slF, ↓w_SE_tupleF, ↓w_SE_idxF, ↓c_catF, ↓c_inF, ↓c_ixF, ↓c_lenF, ↓w_SI_frt, ↓c_asF, ↓w_SE_nl, ↓w_SE_dget, ↓w_SE_idxL, ↓w_SE_tabIxI, ↓w_SE_inTabI, ↓c_isntB, ↓w_SB_any_, ↓w_SE_din, ↓w_SE_dc])
local macro_rules | `(tactic| walk_at "wq") => `(tactic| try simp (config := { maxSteps := 1000000 }) only [↓w_SE_var, ↓w_SE_non, ↓w_SE_bl, ↓w_SE_int, ↓w_SE_str, ↓w_SE_op, ↓w_SE_un, ↓w_SE_cb, ↓w_SE_tup, ↓w_SE_lst, ↓w_SE_ifE, ↓w_SE_isN, ↓w_SE_notN, ↓w_SA_nil, ↓w_SA_cons, ↓w_ST_not, ↓w_ST_and, ↓w_ST_or, ↓w_ST_yes, ↓w_ST_tru, ↓w_SG_name, ↓w_SS_next, ↓w_SS_brk, ↓w_SS_cont, ↓w_SS_never, ↓w_SS_seq, ↓w_SS_cut, ↓w_SS_asg, ↓w_SS_drop, ↓w_SS_ret, ↓w_SS_retN, ↓w_SS_ifS, ↓w_SS_for_, ↓w_SS_while_, ↓w_SN_lst, ↓w_SE_nl, ↓w_SS_own, ↓w_SN_lc, ↓w_SE_call, ↓w_SE_callS, ↓w_SE_pop, ↓w_SP__no, ↓w_SS_raise0, ↓w_SS_raise1, ↓w_SS_raise2, ↓w_SS_tryO, ↓w_SS_tryA, ↓w_SS_tryM, ↓w_SE_xf, ↓w_SE_isE, ↓w_SE_popAt, ↓w_SN_slO, ↓w_SN_sortedS, ↓w_SN_sortedI, ↓w_SS_asg2, ↓w_SS_par, ↓w_SE_joined, ↓w_SE_join, ↓w_SE_txtB, ↓w_SE_lenSetT, ↓w_SE_chain, ↓w_SO_inSign, ↓w_SO_eqE, ↓w_SB_all_, ↓w_SB_repr, ↓c_i0, ↓c_c0, ↓c_iC, ↓c_addS, ↓c_repS, ↓c_catT, ↓c_ixS, ↓c_ixT, ↓c_ixL, ↓c_eq_ii, ↓c_eq_ss, ↓c_eq_ns, ↓c_eq_sn, ↓c_eq_bb, ↓c_eq_nn, ↓c_eq_ni, ↓c_eq_in, ↓c_ne_ii, ↓c_ne_ss, ↓c_ne_bb, ↓c_ne_ns, ↓c_ne_sn, ↓c_ne_nn, ↓c_ne_ni, ↓c_ne_in, ↓c_inST, ↓c_inSL, ↓c_lenS, ↓c_lenQt, ↓c_lenQl, ↓c_abs, ↓c_int1i, ↓c_int1b, ↓c_tupl, ↓c_tupt, ↓c_max2, ↓c_min2, ↓c_neg, ↓c_tst, ↓c_asI, ↓c_asS, ↓c_asT, ↓c_asL, ↓c_asQl, ↓c_asQt, ↓o_tt, ↓o_ts, ↓o_tl, ↓o_ti, ↓o_st, ↓o_ss, ↓o_sl_, ↓o_si, ↓o_lt, ↓o_ls, ↓o_ll, ↓o_li, ↓o_it, ↓o_is, ↓o_il, ↓o_ii, ↓o_bt, ↓o_bs, ↓o_bl_, ↓o_bi, ↓o_nt, ↓o_ns, ↓o_nl, ↓o_ni, ↓o_dt, ↓o_ds, ↓o_dl, ↓o_di, ↓v_test, ↓v_b, ↓v_andV, ↓v_orV, ↓v_notV, ↓v_isi, ↓v_at, ↓v_slS, ↓v_slT, ↓v_slL, ↓v_listOf, ↓v_revL, ↓v_revT, ↓v_cat, ↓v_rep, ↓v_ilist, ↓v_itup, ↓v_istr, ↓v_enumL, ↓v_enumT, ↓v_rng1, ↓v_rng2, ↓c_rng1, ↓c_rng2, ↓v_zipA, ↓c_zipt, ↓c_zipl, ↓v_gtup, ↓c_unp, ↓v_gunl, ↓c_unpL, ↓v_fmt, ↓c_fmts, ↓c_fmti, ↓v_js, ↓v_lenO, ↓v_tupO, ↓v_listO, ↓v_truO, ↓v_eqEO, ↓v_append, ↓v_ixO, ↓v_extendT, ↓v_extendL, ↓v_insert, ↓v_setL, ↓v_inO, ↓v_v0, ↓v_v0o, ↓v_v0d, ↓v_vs, ↓v_o0, ↓v_os, ↓v_d0, ↓v_ds, tr_non, tr_bl, tr_int, tr_str, tr_tup, tr_lst, tr_dic, in_non, in_bl, in_int, in_str, in_tup, in_lst, in_dic, we_nil, we_cons, sl_name, sl_tup, sl_unl, sa_nil, sa_cons, pr_val, pr_own, st_app, st_nil, js_nil, List.getElem?_cons_zero, List.getElem?_cons_succ, List.set_cons_zero, List.set_cons_succ, List.length_cons, List.length_nil, List.replicate_succ, List.replicate_zero, if_true, Bool.not_true, Bool.not_false, Bool.false_eq_true, if_false, ite_true, ite_false, decide_true, decide_false, Nat.reduceSub, Nat.reduceAdd, Nat.zero_add, true_and, and_true, ↓w_SE_tupF, ↓w_SE_slF, ↓w_SE_tupleF, ↓w_SE_idxF, ↓c_catF, ↓c_inF, ↓c_ixF, ↓c_lenF, ↓w_SI_frt, ↓c_asF, ↓w_SE_nl, ↓w_SO_eqE, ↓w_SE_dget, ↓w_SE_idxL, ↓w_SE_tabIxI, ↓w_SE_inTabI, ↓c_isntB, ↓w_SB_any_, ↓w_SE_din, ↓w_SE_dc])
section
variable {K : PySem.W.Frag} [Tbs K]
/-! ### who is in whom, by parents -/
/-! ### a drawn wish -/
/-! ### whether it is so, as the law tells it -/
end
/-! ### readings -/
section
variable {K : PySem.W.Frag} [Tbs K]
end
/-! ### the law -/
section
variable {K : PySem.W.Frag}
/-! ### what the link needs -/
inductive Cf51 (K : PySem.W.Frag) (A_TwigError A_BadWish : Addr) : Prop
  | mk
end
end Tw
set_option Elab.async false
set_option linter.all false
set_option maxRecDepth 100000
set_option maxHeartbeats 4000000
/-! wishes judged: the program's refusals, the laws' reasons, spoilt wishes -/
namespace Tw
open PySem PySem.Spec PyProof.Rows L2 TL
local macro_rules | `(tactic| walk_at "wp") => `(tactic| try simp (config := { maxSteps := 1000000 }) only [↓w_SE_var, ↓w_SE_non, ↓w_SE_bl, ↓w_SE_int, ↓w_SE_str, ↓w_SE_op, ↓w_SE_un, ↓w_SE_cb, ↓w_SE_tup, ↓w_SE_lst, ↓w_SE_ifE, ↓w_SE_isN, ↓w_SE_notN, ↓w_SA_nil, ↓w_SA_cons, ↓w_ST_not, ↓w_ST_and, ↓w_ST_or, ↓w_ST_yes, ↓w_ST_tru, ↓w_SG_name, ↓w_SS_next, ↓w_SS_brk, ↓w_SS_cont, ↓w_SS_never, ↓w_SS_seq, ↓w_SS_cut, ↓w_SS_asg, ↓w_SS_drop, ↓w_SS_ret, ↓w_SS_retN, ↓w_SS_ifS, ↓w_SS_for_, ↓w_SS_while_, ↓w_SN_lst, ↓w_SE_nl, ↓w_SS_own, ↓w_SN_lc, ↓w_SE_call, ↓w_SE_callS, ↓w_SE_pop, ↓w_SP__no, ↓w_SS_raise0, ↓w_SS_raise1, ↓w_SS_raise2, ↓w_SS_tryO, ↓w_SS_tryA, ↓w_SS_tryM, ↓w_SE_xf, ↓w_SE_isE, ↓w_SE_popAt, ↓w_SN_slO, ↓w_SN_sortedS, ↓w_SN_sortedI, ↓w_SS_asg2, ↓w_SS_par, ↓w_SE_joined, ↓w_SE_join, ↓w_SE_txtB, ↓w_SE_lenSetT, ↓w_SE_chain, ↓w_SO_inSign, ↓w_SO_eqE, ↓w_SB_all_, ↓w_SB_repr, ↓c_i0, ↓c_c0, ↓c_iC, ↓c_addS, ↓c_repS, ↓c_catT, ↓c_ixS, ↓c_ixT, ↓c_ixL, ↓c_eq_ii, ↓c_eq_ss, ↓c_eq_ns, ↓c_eq_sn, ↓c_eq_bb, ↓c_eq_nn, ↓c_eq_ni, ↓c_eq_in, ↓c_ne_ii, ↓c_ne_ss, ↓c_ne_bb, ↓c_ne_ns, ↓c_ne_sn, ↓c_ne_nn, ↓c_ne_ni, ↓c_ne_in, ↓c_inST, ↓c_inSL, ↓c_lenS, ↓c_lenQt, ↓c_lenQl, ↓c_abs, ↓c_int1i, ↓c_int1b, ↓c_tupl, ↓c_tupt, ↓c_max2, ↓c_min2, ↓c_neg, ↓c_tst, ↓c_asI, ↓c_asS, ↓c_asT, ↓c_asL, ↓c_asQl, ↓c_asQt, ↓o_tt, ↓o_ts, ↓o_tl, ↓o_ti, ↓o_st, ↓o_ss, ↓o_sl_, ↓o_si, ↓o_lt, ↓o_ls, ↓o_ll, ↓o_li, ↓o_it, ↓o_is, ↓o_il, ↓o_ii, ↓o_bt, ↓o_bs, ↓o_bl_, ↓o_bi, ↓o_nt, ↓o_ns, ↓o_nl, ↓o_ni, ↓o_dt, ↓o_ds, ↓o_dl, ↓o_di, ↓v_test, ↓v_b, ↓v_andV, ↓v_orV, ↓v_notV, ↓v_isi, ↓v_at, ↓v_slS, ↓v_slT, ↓v_slL, ↓v_listOf, ↓v_revL, ↓v_revT, ↓v_cat, ↓v_rep, ↓v_ilist, ↓v_itup, ↓v_istr, ↓v_enumL, ↓v_enumT, ↓v_rng1, ↓v_rng2, ↓c_rng1, ↓c_rng2, ↓v_zipA, ↓c_zipt, ↓c_zipl, ↓v_gtup, ↓c_unp, ↓v_gunl, ↓c_unpL, ↓v_fmt, ↓c_fmts, ↓c_fmti, ↓v_js, ↓v_lenO, ↓v_tupO, ↓v_listO, ↓v_truO, ↓v_eqEO, ↓v_append, ↓v_ixO, ↓v_extendT, ↓v_extendL, ↓v_insert, ↓v_setL, ↓v_inO, ↓v_v0, ↓v_v0o, ↓v_v0d, ↓v_vs, ↓v_o0, ↓v_os, ↓v_d0, ↓v_ds, tr_non, tr_bl, tr_int, tr_str, tr_tup, tr_lst, tr_dic, in_non, in_bl, in_int, in_str, in_tup, in_lst, in_dic, we_nil, we_cons, sl_name, sl_tup, sl_unl, sa_nil, sa_cons, pr_val, pr_own, st_app, st_nil, js_nil, ↓w_for0, ↓w_for1, List.getElem?_cons_zero, List.getElem?_cons_succ, List.set_cons_zero, List.set_cons_succ, List.length_cons, List.length_nil, List.replicate_succ, List.replicate_zero, if_true, Bool.not_true, Bool.not_false, Bool.false_eq_true, if_false, ite_true, ite_false, decide_true, decide_false, Nat.reduceSub, Nat.reduceAdd, Nat.zero_add, true_and, and_true, ↓w_SE_tupF, ↓w_SE_slF, ↓w_SE_tupleF, ↓w_SE_idxF, ↓c_catF, ↓c_inF, ↓c_ixF, ↓c_lenF, ↓w_SI_frt, ↓c_asF, ↓w_SE_nl, ↓w_SE_dget, ↓w_SE_idxL, ↓w_SE_tabIxI, ↓w_SE_inTabI, ↓c_isntB, ↓w_SB_any_, ↓w_SE_din, ↓w_SE_dc, ↓c_isAny, ↓w_SE_maxO, ↓w_SE_stripC, ↓w_SB_reprA, ↓w_SE_dcon, ↓w_SE_dget2, ↓w_SE_dnew, ↓w_SS_tryX])
local macro_rules | `(tactic| walk_at "wq") => `(tactic| try simp (config := { maxSteps := 1000000 }) only [↓w_SE_var, ↓w_SE_non, ↓w_SE_bl, ↓w_SE_int, ↓w_SE_str, ↓w_SE_op, ↓w_SE_un, ↓w_SE_cb, ↓w_SE_tup, ↓w_SE_lst, ↓w_SE_ifE, ↓w_SE_isN, ↓w_SE_notN, ↓w_SA_nil, ↓w_SA_cons, ↓w_ST_not, ↓w_ST_and, ↓w_ST_or, ↓w_ST_yes, ↓w_ST_tru, ↓w_SG_name, ↓w_SS_next, ↓w_SS_brk, ↓w_SS_cont, ↓w_SS_never, ↓w_SS_seq, ↓w_SS_cut, ↓w_SS_asg, ↓w_SS_drop, ↓w_SS_ret, ↓w_SS_retN, ↓w_SS_ifS, ↓w_SS_for_, ↓w_SS_while_, ↓w_SN_lst, ↓w_SE_nl, ↓w_SS_own, ↓w_SN_lc, ↓w_SE_call, ↓w_SE_callS, ↓w_SE_pop, ↓w_SP__no, ↓w_SS_raise0, ↓w_SS_raise1, ↓w_SS_raise2, ↓w_SS_tryO, ↓w_SS_tryA, ↓w_SS_tryM, ↓w_SE_xf, ↓w_SE_isE, ↓w_SE_popAt, ↓w_SN_slO, ↓w_SN_sortedS, ↓w_SN_sortedI, ↓w_SS_asg2, ↓w_SS_par, ↓w_SE_joined, ↓w_SE_join, ↓w_SE_txtB, ↓w_SE_lenSetT, ↓w_SE_chain, ↓w_SO_inSign, ↓w_SO_eqE, ↓w_SB_all_, ↓w_SB_repr, ↓c_i0, ↓c_c0, ↓c_iC, ↓c_addS, ↓c_repS, ↓c_catT, ↓c_ixS, ↓c_ixT, ↓c_ixL, ↓c_eq_ii, ↓c_eq_ss, ↓c_eq_ns, ↓c_eq_sn, ↓c_eq_bb, ↓c_eq_nn, ↓c_eq_ni, ↓c_eq_in, ↓c_ne_ii, ↓c_ne_ss, ↓c_ne_bb, ↓c_ne_ns, ↓c_ne_sn, ↓c_ne_nn, ↓c_ne_ni, ↓c_ne_in, ↓c_inST, ↓c_inSL, ↓c_lenS, ↓c_lenQt, ↓c_lenQl, ↓c_abs, ↓c_int1i, ↓c_int1b, ↓c_tupl, ↓c_tupt, ↓c_max2, ↓c_min2, ↓c_neg, ↓c_tst, ↓c_asI, ↓c_asS, ↓c_asT, ↓c_asL, ↓c_asQl, ↓c_asQt, ↓o_tt, ↓o_ts, ↓o_tl, ↓o_ti, ↓o_st, ↓o_ss, ↓o_sl_, ↓o_si, ↓o_lt, ↓o_ls, ↓o_ll, ↓o_li, ↓o_it, ↓o_is, ↓o_il, ↓o_ii, ↓o_bt, ↓o_bs, ↓o_bl_, ↓o_bi, ↓o_nt, ↓o_ns, ↓o_nl, ↓o_ni, ↓o_dt, ↓o_ds, ↓o_dl, ↓o_di, ↓v_test, ↓v_b, ↓v_andV, ↓v_orV, ↓v_notV, ↓v_isi, ↓v_at, ↓v_slS, ↓v_slT, ↓v_slL, ↓v_listOf, ↓v_revL, ↓v_revT, ↓v_cat, ↓v_rep, ↓v_ilist, ↓v_itup, ↓v_istr, ↓v_enumL, ↓v_enumT, ↓v_rng1, ↓v_rng2, ↓c_rng1, ↓c_rng2, ↓v_zipA, ↓c_zipt, ↓c_zipl, ↓v_gtup, ↓c_unp, ↓v_gunl, ↓c_unpL, ↓v_fmt, ↓c_fmts, ↓c_fmti, ↓v_js, ↓v_lenO, ↓v_tupO, ↓v_listO, ↓v_truO, ↓v_eqEO, ↓v_append, ↓v_ixO, ↓v_extendT, ↓v_extendL, ↓v_insert, ↓v_setL, ↓v_inO, ↓v_v0, ↓v_v0o, ↓v_v0d, ↓v_vs, ↓v_o0, ↓v_os, ↓v_d0, ↓v_ds, tr_non, tr_bl, tr_int, tr_str, tr_tup, tr_lst, tr_dic, in_non, in_bl, in_int, in_str, in_tup, in_lst, in_dic, we_nil, we_cons, sl_name, sl_tup, sl_unl, sa_nil, sa_cons, pr_val, pr_own, st_app, st_nil, js_nil, List.getElem?_cons_zero, List.getElem?_cons_succ, List.set_cons_zero, List.set_cons_succ, List.length_cons, List.length_nil, List.replicate_succ, List.replicate_zero, if_true, Bool.not_true, Bool.not_false, Bool.false_eq_true, if_false, ite_true, ite_false, decide_true, decide_false, Nat.reduceSub, Nat.reduceAdd, Nat.zero_add, true_and, and_true, ↓w_SE_tupF, ↓w_SE_slF, ↓w_SE_tupleF, ↓w_SE_idxF, ↓c_catF, ↓c_inF, ↓c_ixF, ↓c_lenF, ↓w_SI_frt, ↓c_asF, ↓w_SE_nl, ↓w_SO_eqE, ↓w_SE_dget, ↓w_SE_idxL, ↓w_SE_tabIxI, ↓w_SE_inTabI, ↓c_isntB, ↓w_SB_any_, ↓w_SE_din, ↓w_SE_dc, ↓c_isAny, ↓w_SE_maxO, ↓w_SE_stripC, ↓w_SB_reprA, ↓w_SE_dcon, ↓w_SE_dget2, ↓w_SE_dnew, ↓w_SS_tryX])
def psp_l_is_nameS : PSp := fun xs _ post => ∃ x : PV, xs = [x] ∧ x.vok = true ∧ post (.bl (nmW x.wv))
inductive Cf50 (K : PySem.W.Frag) (A_TwigError A_BadWish : Addr) : Prop
  | mk (e : PySem.W.exmOne K (.ref A_BadWish) (.ref A_BadWish) = some true)
section
variable {K : PySem.W.Frag} [Tbs K]
/-! ### the program -/
/-! ### names, told by strip -/
/-! ### the laws' reason -/
abbrev Stp := List (List Nat × PV)
def stW (st : Stp) : List (List Nat × WV) := st.map fun t => (t.1, t.2.wv)
/-- what is still to do -/
structure WeI (x : PV) (m : Nat) (st : Stp) (ds : List Int) : Prop where
  ok : ∀ t ∈ st, t.2.vok = true
  ms : m = szS (stW st)
  go : ∃ fuel n d, szS (stW st) ≤ fuel ∧ chk fuel (stW st) n d = chk x.wv.sz [([], x.wv)] 0 0 ∧ (ds.length : Nat) = n ∧ n + szS (stW st) ≤ 10000 ∧ (∀ y ∈ ds, y + 1 ≤ (d : Int)) ∧ (ds ≠ [] → ∃ y ∈ ds, y + 1 = (d : Int)) ∧ (ds = [] → d = 0)
  ne : st = [] → ds ≠ []
  pl : ∀ t ∈ st, t.1.length + t.2.wv.sz ≤ 100000
/-! ### a spoilt wish -/
theorem SpV.name {z : Str} (h : IsName z) : SpV (.str z) 1 z.length 0 := SpV.str (strOk_of h) (by have := h.eight; omega)
theorem SpV.of_items {l : List PV} {d : Nat} (h : ∀ x ∈ l, ∃ n w, SpV x n w d) : SpV (.tup l) (1 + WV.szs (PV.wvs l)) (wtS l) (d + 1) := (SpV.tup h (Nat.le_refl _) (Nat.le_refl _)).mono (by omega) (Nat.le_refl _) (Nat.le_refl _)
/-! ### a refusal -/
/-! ### readings -/
end
end Tw
set_option Elab.async false
set_option linter.all false
set_option maxRecDepth 100000
set_option maxHeartbeats 4000000
/-! names that are not there: parent_of, children_of, is_in, is_ahead tell NoName -/
namespace Tw
open PySem PySem.Spec PyProof.Rows L2 TL
local macro_rules | `(tactic| walk_at "wp") => `(tactic| try simp (config := { maxSteps := 1000000 }) only [↓w_SE_var, ↓w_SE_non, ↓w_SE_bl, ↓w_SE_int, ↓w_SE_str, ↓w_SE_op, ↓w_SE_un, ↓w_SE_cb, ↓w_SE_tup, ↓w_SE_lst, ↓w_SE_ifE, ↓w_SE_isN, ↓w_SE_notN, ↓w_SA_nil, ↓w_SA_cons, ↓w_ST_not, ↓w_ST_and, ↓w_ST_or, ↓w_ST_yes, ↓w_ST_tru, ↓w_SG_name, ↓w_SS_next, ↓w_SS_brk, ↓w_SS_cont, ↓w_SS_never, ↓w_SS_seq, ↓w_SS_cut, ↓w_SS_asg, ↓w_SS_drop, ↓w_SS_ret, ↓w_SS_retN, ↓w_SS_ifS, ↓w_SS_for_, ↓w_SS_while_, ↓w_SN_lst, ↓w_SE_nl, ↓w_SS_own, ↓w_SN_lc, ↓w_SE_call, ↓w_SE_callS, ↓w_SE_pop, ↓w_SP__no, ↓w_SS_raise0, ↓w_SS_raise1, ↓w_SS_raise2, ↓w_SS_tryO, ↓w_SS_tryA, ↓w_SS_tryM, ↓w_SE_xf, ↓w_SE_isE, ↓w_SE_popAt, ↓w_SN_slO, ↓w_SN_sortedS, ↓w_SN_sortedI, ↓w_SS_asg2, ↓w_SS_par, ↓w_SE_joined, ↓w_SE_join, ↓w_SE_txtB, ↓w_SE_lenSetT, ↓w_SE_chain, ↓w_SO_inSign, ↓w_SO_eqE, ↓w_SB_all_, ↓w_SB_repr, ↓c_i0, ↓c_c0, ↓c_iC, ↓c_addS, ↓c_repS, ↓c_catT, ↓c_ixS, ↓c_ixT, ↓c_ixL, ↓c_eq_ii, ↓c_eq_ss, ↓c_eq_ns, ↓c_eq_sn, ↓c_eq_bb, ↓c_eq_nn, ↓c_eq_ni, ↓c_eq_in, ↓c_ne_ii, ↓c_ne_ss, ↓c_ne_bb, ↓c_ne_ns, ↓c_ne_sn, ↓c_ne_nn, ↓c_ne_ni, ↓c_ne_in, ↓c_inST, ↓c_inSL, ↓c_lenS, ↓c_lenQt, ↓c_lenQl, ↓c_abs, ↓c_int1i, ↓c_int1b, ↓c_tupl, ↓c_tupt, ↓c_max2, ↓c_min2, ↓c_neg, ↓c_tst, ↓c_asI, ↓c_asS, ↓c_asT, ↓c_asL, ↓c_asQl, ↓c_asQt, ↓o_tt, ↓o_ts, ↓o_tl, ↓o_ti, ↓o_st, ↓o_ss, ↓o_sl_, ↓o_si, ↓o_lt, ↓o_ls, ↓o_ll, ↓o_li, ↓o_it, ↓o_is, ↓o_il, ↓o_ii, ↓o_bt, ↓o_bs, ↓o_bl_, ↓o_bi, ↓o_nt, ↓o_ns, ↓o_nl, ↓o_ni, ↓o_dt, ↓o_ds, ↓o_dl, ↓o_di, ↓v_test, ↓v_b, ↓v_andV, ↓v_orV, ↓v_notV, ↓v_isi, ↓v_at, ↓v_slS, ↓v_slT, ↓v_slL, ↓v_listOf, ↓v_revL, ↓v_revT, ↓v_cat, ↓v_rep, ↓v_ilist, ↓v_itup, ↓v_istr, ↓v_enumL, ↓v_enumT, ↓v_rng1, ↓v_rng2, ↓c_rng1, ↓c_rng2, ↓v_zipA, ↓c_zipt, ↓c_zipl, ↓v_gtup, ↓c_unp, ↓v_gunl, ↓c_unpL, ↓v_fmt, ↓c_fmts, ↓c_fmti, ↓v_js, ↓v_lenO, ↓v_tupO, ↓v_listO, ↓v_truO, ↓v_eqEO, ↓v_append, ↓v_ixO, ↓v_extendT, ↓v_extendL, ↓v_insert, ↓v_setL, ↓v_inO, ↓v_v0, ↓v_v0o, ↓v_v0d, ↓v_vs, ↓v_o0, ↓v_os, ↓v_d0, ↓v_ds, tr_non, tr_bl, tr_int, tr_str, tr_tup, tr_lst, tr_dic, in_non, in_bl, in_int, in_str, in_tup, in_lst, in_dic, we_nil, we_cons, sl_name, sl_tup, sl_unl, sa_nil, sa_cons, pr_val, pr_own, st_app, st_nil, js_nil, ↓w_for0, ↓w_for1, List.getElem?_cons_zero, List.getElem?_cons_succ, List.set_cons_zero, List.set_cons_succ, List.length_cons, List.length_nil, List.replicate_succ, List.replicate_zero, if_true, Bool.not_true, Bool.not_false, Bool.false_eq_true, if_false, ite_true, ite_false, decide_true, decide_false, Nat.reduceSub, Nat.reduceAdd, Nat.zero_add, true_and, and_true, ↓w_SE_tupF, ↓w_SE_slF, ↓w_SE_tupleF, ↓w_SE_idxF, ↓c_catF, ↓c_inF, ↓c_ixF, ↓c_lenF, ↓w_SI_frt, ↓c_asF, ↓w_SE_nl, ↓w_SE_dget, ↓w_SE_idxL, ↓c_isntB, ↓w_SB_any_, ↓w_SE_din, ↓c_isAny, ↓w_SE_dc])
local macro_rules | `(tactic| walk_at "wq") => `(tactic| try simp (config := { maxSteps := 1000000 }) only [↓w_SE_var, ↓w_SE_non, ↓w_SE_bl, ↓w_SE_int, ↓w_SE_str, ↓w_SE_op, ↓w_SE_un, ↓w_SE_cb, ↓w_SE_tup, ↓w_SE_lst, ↓w_SE_ifE, ↓w_SE_isN, ↓w_SE_notN, ↓w_SA_nil, ↓w_SA_cons, ↓w_ST_not, ↓w_ST_and, ↓w_ST_or, ↓w_ST_yes, ↓w_ST_tru, ↓w_SG_name, ↓w_SS_next, ↓w_SS_brk, ↓w_SS_cont, ↓w_SS_never, ↓w_SS_seq, ↓w_SS_cut, ↓w_SS_asg, ↓w_SS_drop, ↓w_SS_ret, ↓w_SS_retN, ↓w_SS_ifS, ↓w_SS_for_, ↓w_SS_while_, ↓w_SN_lst, ↓w_SE_nl, ↓w_SS_own, ↓w_SN_lc, ↓w_SE_call, ↓w_SE_callS, ↓w_SE_pop, ↓w_SP__no, ↓w_SS_raise0, ↓w_SS_raise1, ↓w_SS_raise2, ↓w_SS_tryO, ↓w_SS_tryA, ↓w_SS_tryM, ↓w_SE_xf, ↓w_SE_isE, ↓w_SE_popAt, ↓w_SN_slO, ↓w_SN_sortedS, ↓w_SN_sortedI, ↓w_SS_asg2, ↓w_SS_par, ↓w_SE_joined, ↓w_SE_join, ↓w_SE_txtB, ↓w_SE_lenSetT, ↓w_SE_chain, ↓w_SO_inSign, ↓w_SO_eqE, ↓w_SB_all_, ↓w_SB_repr, ↓c_i0, ↓c_c0, ↓c_iC, ↓c_addS, ↓c_repS, ↓c_catT, ↓c_ixS, ↓c_ixT, ↓c_ixL, ↓c_eq_ii, ↓c_eq_ss, ↓c_eq_ns, ↓c_eq_sn, ↓c_eq_bb, ↓c_eq_nn, ↓c_eq_ni, ↓c_eq_in, ↓c_ne_ii, ↓c_ne_ss, ↓c_ne_bb, ↓c_ne_ns, ↓c_ne_sn, ↓c_ne_nn, ↓c_ne_ni, ↓c_ne_in, ↓c_inST, ↓c_inSL, ↓c_lenS, ↓c_lenQt, ↓c_lenQl, ↓c_abs, ↓c_int1i, ↓c_int1b, ↓c_tupl, ↓c_tupt, ↓c_max2, ↓c_min2, ↓c_neg, ↓c_tst, ↓c_asI, ↓c_asS, ↓c_asT, ↓c_asL, ↓c_asQl, ↓c_asQt, ↓o_tt, ↓o_ts, ↓o_tl, ↓o_ti, ↓o_st, ↓o_ss, ↓o_sl_, ↓o_si, ↓o_lt, ↓o_ls, ↓o_ll, ↓o_li, ↓o_it, ↓o_is, ↓o_il, ↓o_ii, ↓o_bt, ↓o_bs, ↓o_bl_, ↓o_bi, ↓o_nt, ↓o_ns, ↓o_nl, ↓o_ni, ↓o_dt, ↓o_ds, ↓o_dl, ↓o_di, ↓v_test, ↓v_b, ↓v_andV, ↓v_orV, ↓v_notV, ↓v_isi, ↓v_at, ↓v_slS, ↓v_slT, ↓v_slL, ↓v_listOf, ↓v_revL, ↓v_revT, ↓v_cat, ↓v_rep, ↓v_ilist, ↓v_itup, ↓v_istr, ↓v_enumL, ↓v_enumT, ↓v_rng1, ↓v_rng2, ↓c_rng1, ↓c_rng2, ↓v_zipA, ↓c_zipt, ↓c_zipl, ↓v_gtup, ↓c_unp, ↓v_gunl, ↓c_unpL, ↓v_fmt, ↓c_fmts, ↓c_fmti, ↓v_js, ↓v_lenO, ↓v_tupO, ↓v_listO, ↓v_truO, ↓v_eqEO, ↓v_append, ↓v_ixO, ↓v_extendT, ↓v_extendL, ↓v_insert, ↓v_setL, ↓v_inO, ↓v_v0, ↓v_v0o, ↓v_v0d, ↓v_vs, ↓v_o0, ↓v_os, ↓v_d0, ↓v_ds, tr_non, tr_bl, tr_int, tr_str, tr_tup, tr_lst, tr_dic, in_non, in_bl, in_int, in_str, in_tup, in_lst, in_dic, we_nil, we_cons, sl_name, sl_tup, sl_unl, sa_nil, sa_cons, pr_val, pr_own, st_app, st_nil, js_nil, List.getElem?_cons_zero, List.getElem?_cons_succ, List.set_cons_zero, List.set_cons_succ, List.length_cons, List.length_nil, List.replicate_succ, List.replicate_zero, if_true, Bool.not_true, Bool.not_false, Bool.false_eq_true, if_false, ite_true, ite_false, decide_true, decide_false, Nat.reduceSub, Nat.reduceAdd, Nat.zero_add, true_and, and_true, ↓w_SE_tupF, ↓w_SE_slF, ↓w_SE_tupleF, ↓w_SE_idxF, ↓c_catF, ↓c_inF, ↓c_ixF, ↓c_lenF, ↓w_SI_frt, ↓c_asF, ↓w_SE_nl, ↓w_SE_dget, ↓w_SE_idxL, ↓c_isntB, ↓w_SB_any_, ↓w_SE_din, ↓c_isAny, ↓w_SE_dc])
/-- names and what they lie in -/
def parsP : Fo → PV → List (Str × PV)
  | .nil, _ => []
  | .cons n ks r, t => (n, t) :: (parsP ks (.str n) ++ parsP r t)
theorem parsP_nm : ∀ (f : Fo) (t : PV), (parsP f t).map (·.1) = f.nm
  | .nil, _ => rfl
  | .cons n ks r, t => by simp only [parsP, List.map_cons, List.map_append, parsP_nm ks, parsP_nm r]; rfl
def parD (f : Fo) : List (Key × PV) := (parsP f .non).map fun p => (Sum.inr p.1, p.2)
def thereP (nms : List Str) : PV → Bool
  | .str z => decide (z ∈ nms)
  | _ => false
/-- the first that is no name there -/
def missP (ys : List PV) (nms : List Str) : Option PV := ys.find? fun y => !thereP nms y
def psp_parents_ofD : PSp := fun xs _ post => ∃ f : Fo, xs = [f.pv] ∧ NameOk f ∧ post (.dic (parD f))
def psp_check_thereN (C : Addr) : PSp := fun xs perr post => ∃ (f : Fo) (ys : List PV), xs = [.dic (parD f), .tup ys] ∧ (∀ y ∈ ys, y.vok = true) ∧ (∀ x, missP ys f.nm = some x → perr (C, [("name", x)])) ∧ (missP ys f.nm = none → post .non)
theorem repK_app {K : PySem.W.Frag} [Tbs K] {dk : Option Addr} {F : Addr → Prop} {H : Hp} : ∀ {as : List (Key × V)} {xs : List (Key × PV)} {bs : List (Key × V)} {ys : List (Key × PV)}, RepK K dk F H as xs → RepK K dk F H bs ys → RepK K dk F H (as ++ bs) (xs ++ ys)
  | _, _, _, _, .nil, h => h
  | _, _, _, _, .cons r l, h => .cons r (repK_app l h)
theorem dropAt3 {α : Type} {xs : List α} {i : Nat} {x : α} (h : xs[i]? = some x) : xs.drop i = x :: xs.drop (i + 1) := by
  obtain ⟨hi, e⟩ := List.getElem?_eq_some_iff.mp h
  rw [List.drop_eq_getElem_cons hi, e]
theorem par_rep {K : PySem.W.Frag} [Tbs K] {dk : Option Addr} {F : Addr → Prop} {H : Hp} : ∀ (f : Fo) (t : V) (x : PV), Rep K dk F H t x → RepK K dk F H (pk (pars f t)) ((parsP f x).map fun p => (Sum.inr p.1, p.2))
  | .nil, _, _, _ => .nil
  | .cons n ks r, t, x, h => by
    have e1 : pk (pars (.cons n ks r) t) = ((Sum.inr n : Key), t) :: (pk (pars ks (.str n)) ++ pk (pars r t)) := by simp [pars, pk]
    have e2 : (parsP (.cons n ks r) x).map (fun p : Str × PV => ((Sum.inr p.1 : Key), p.2)) = ((Sum.inr n : Key), x) :: ((parsP ks (.str n)).map (fun p : Str × PV => ((Sum.inr p.1 : Key), p.2)) ++ (parsP r x).map fun p : Str × PV => ((Sum.inr p.1 : Key), p.2)) := by simp [parsP]
    rw [e1, e2]
    exact .cons h (repK_app (par_rep ks _ _ (.str n)) (par_rep r t x h))
section
variable (K : PySem.W.Frag) [Tbs K]
theorem hs_parents_ofD : SpOk K (sp_parents_of K) psp_parents_ofD := by
  rintro dk F H vs xs perr post Q E s r ⟨f, rfl, hf, h4⟩ q _
  cases r with
  | cons a b =>
    cases b
    obtain ⟨p, rfl, w⟩ := rep_wood a
    refine ⟨p, f, rfl, w, hf, fun d H' k hd hl => ?_⟩
    let F' : Addr → Prop := fun c => F c ∨ c = d
    have s0 := s.kp k
    have s1 : St0 K dk F (hide H) F' H' := by
      refine ⟨s0.base, ?_, ?_, fun c h => .inl (s0.f0 c h), ?_, s0.deck, s0.deck0, s0.h0, s0.tb.tabs, ?_⟩
      · rintro c (h | rfl)
        · exact s0.fnew c h
        · exact .inr (hide_none hd)
      · rintro c (h | rfl)
        · exact s0.fall c h
        · exact ⟨_, hl⟩
      · rintro c (h | rfl)
        · exact s0.fdk c h
        · exact s.notDeck hd
      · rintro c ps (h | rfl) e
        · exact s0.tb.fnt c ps h e
        · rw [hl] at e; cases e
    exact q _ H' F' _ s1 (.dic (.inr rfl) hl (par_rep f .non .non .non)) h4
end
def X_u_check_thereN_b1 (K : PySem.W.Frag) [Tbs K] (A_NoName : Addr) : SS K :=
  (SS.ifS (ST.or (ST.not (ST.b (SE.isi "str" (SE.var 2)))) (ST.b (SE.din true (SE.var 2) (SE.var 0)))) (SS.raise1 A_NoName "name" (SE.var 2)) SS.next)
def X_u_check_thereN (K : PySem.W.Frag) [Tbs K] (A_NoName : Addr) : SS K :=
  (SS.for_ (SI.tup (SE.var 1)) (SG.name 2) (X_u_check_thereN_b1 K A_NoName))
section
variable {K : PySem.W.Frag} [Tbs K]
theorem val_some (kvs : List (Key × PV)) (k : Key) : (valP kvs k).isSome = true ↔ ∃ p ∈ kvs, p.1 = k := by
  unfold valP
  rw [Option.isSome_map, List.find?_isSome]
  constructor
  · rintro ⟨x, hx, h⟩; exact ⟨x, hx, of_decide_eq_true h⟩
  · rintro ⟨x, hx, h⟩; exact ⟨x, hx, decide_eq_true h⟩
theorem par_some (f : Fo) (z : Str) : (valP (parD f) (Sum.inr z)).isSome = decide (z ∈ f.nm) := by
  rw [Bool.eq_iff_iff, val_some, decide_eq_true_eq, ← parsP_nm f .non]
  unfold parD
  constructor
  · rintro ⟨p, hp, e⟩
    obtain ⟨q, hq, rfl⟩ := List.mem_map.mp hp
    exact List.mem_map.mpr ⟨q, hq, Sum.inr.inj e⟩
  · intro h
    obtain ⟨q, hq, e⟩ := List.mem_map.mp h
    exact ⟨_, List.mem_map.mpr ⟨q, hq, rfl⟩, by rw [← e]⟩
theorem tyN_str {x : PV} (h : x.vok = true) : ∃ t0 b, x.tyN = some t0 ∧ kitB t0 "str" = some b ∧ (b = true ↔ ∃ z, x = .str z) := by
  cases x with
  | non => exact ⟨_, false, rfl, by decide +kernel, by simp⟩
  | bl => exact ⟨_, false, rfl, by decide +kernel, by simp⟩
  | int => exact ⟨_, false, rfl, by decide +kernel, by simp⟩
  | str z => exact ⟨_, true, rfl, by decide +kernel, by simp⟩
  | tup l => exact ⟨_, false, rfl, by decide +kernel, by simp⟩
  | lst => exact ⟨_, false, rfl, by decide +kernel, by simp⟩
  | dic => exact ⟨_, false, rfl, by decide +kernel, by simp⟩
  | deck => cases h
  | frt => cases h
theorem plain_u_check_thereN {C : Addr} (xs : List PV) (perr : PErr → Prop) (post : PV → Prop) (h : psp_check_thereN C xs perr post) : (X_u_check_thereN K C).wp (fun _ => perr) { nx := fun _ => post .non, rt := post } (startE 3 xs) := by
  obtain ⟨f, ys, rfl, hv, h1, h2⟩ := h
  have hz := sizeLine_eq
  unfold X_u_check_thereN
  walk_at "wq"
  refine for_inv (fun t ρ => ∃ s2 : Sl, missP ys f.nm = missP (ys.drop t) f.nm ∧ ρ = [.val (.dic (parD f)), .val (.tup ys), s2]) ⟨_, by rw [List.drop_zero], rfl⟩ ?_ ?_
  · rintro t x ρ k hx ⟨s2, hm, rfl⟩ hk
    have hvx := hv x (List.mem_of_getElem? hx)
    have hdr := dropAt3 hx
    obtain ⟨t0, b, e1, e2, e3⟩ := tyN_str hvx
    rw [hdr] at hm
    unfold X_u_check_thereN_b1
    walk_at "wq"
    refine ⟨t0, b, e1, e2, ?_⟩
    cases b with
    | false =>
      walk_at "wq"
      refine h1 x ?_
      rw [hm]
      unfold missP
      rw [List.find?_cons_of_pos]
      cases x with
      | str z => exact absurd (e3.mpr ⟨z, rfl⟩) (by simp)
      | _ => rfl
    | true =>
      obtain ⟨z, rfl⟩ := e3.mp rfl
      walk_at "wq"
      refine ⟨Sum.inr z, parD f, rfl, rfl, ?_⟩
      rw [par_some]
      by_cases hin : z ∈ f.nm
      · rw [decide_eq_true hin]
        walk_at "wq"
        rw [if_neg (by decide)]
        refine hk _ ⟨_, ?_, rfl⟩
        rw [hm]
        unfold missP
        rw [List.find?_cons_of_neg]
        show ¬ (!decide (z ∈ f.nm)) = true
        rw [decide_eq_true hin]; decide
      · rw [decide_eq_false hin]
        walk_at "wq"
        rw [if_pos (by decide)]
        refine h1 _ ?_
        rw [hm]
        unfold missP
        rw [List.find?_cons_of_pos]
        show (!decide (z ∈ f.nm)) = true
        rw [decide_eq_false hin]; rfl
  · rintro ρ ⟨s2, hm, rfl⟩
    rw [List.drop_length] at hm
    exact h2 hm
/-! ### readings -/
theorem len_u_check_thereN {C : Addr} (vs : List V) (H : Hp) (Q : VK) (E : XK) (h : spOf K (psp_check_thereN C) vs H Q E) : vs.length = 2 := spOf_len (fun _ _ _ h => by obtain ⟨_, _, rfl, _⟩ := h; rfl) vs H Q E h
theorem pure_u_check_thereN {C : Addr} (vs : List V) (H : Hp) (Q : VK) (E : XK) (h : spOf K (psp_check_thereN C) vs H Q E) : (X_u_check_thereN K C).rd (fun _ => E) { nx := fun _ H' => Q .non H', rt := Q } (startN 3 vs) H := SS.run _ plain_u_check_thereN vs H Q E h
end
end Tw
set_option Elab.async false
set_option linter.all false
set_option maxRecDepth 100000
set_option maxHeartbeats 4000000
/-! [k for k in d if d[k] == x], d a dict of names and what they lie in; children_of -/
namespace Tw
open PySem PySem.Spec PyProof.Rows L2 TL
/-- none, or a name -/
def NSP (x : PV) : Prop := x = .non ∨ ∃ n, IsName n ∧ x = .str n
def toV : PV → V
  | .str z => .str z
  | _ => .non
def pkP (ps : List (Str × PV)) : List (Key × PV) := ps.map fun p => (Sum.inr p.1, p.2)
section
variable {K : PySem.W.Frag} [Tbs K] {dk : Option Addr} {F : Addr → Prop} {H : Hp}
theorem rep_ns {v : V} {x : PV} (r : Rep K dk F H v x) (h : NSP x) : v = toV x := by
  rcases h with rfl | ⟨n, _, rfl⟩ <;> cases r <;> rfl
theorem ns_toV {x : PV} (h : NSP x) : NS (toV x) := by
  rcases h with rfl | ⟨n, hn, rfl⟩
  · exact .inl rfl
  · exact .inr ⟨n, hn, rfl⟩
theorem toV_inj {x y : PV} (h1 : NSP x) (h2 : NSP y) (e : toV x = toV y) : x = y := by
  rcases h1 with rfl | ⟨n, _, rfl⟩ <;> rcases h2 with rfl | ⟨m, _, rfl⟩
  · rfl
  · cases e
  · cases e
  · cases e; rfl
theorem repK_ns : ∀ {ps : List (Str × PV)} {vs : List (Key × V)}, RepK K dk F H vs (pkP ps) → (∀ p ∈ ps, NSP p.2) → vs = pk (ps.map fun p => (p.1, toV p.2))
  | [], _, .nil, _ => rfl
  | p :: ps, _, .cons r l, h => by
    have h1 := rep_ns r (h p (List.mem_cons_self ..))
    have h2 := repK_ns l fun q hq => h q (List.mem_cons_of_mem _ hq)
    rw [h1, h2]; rfl
end
open Classical in
noncomputable def keysL (ps : List (Str × PV)) (x : PV) : List Str := (ps.filter fun p => decide (p.2 = x)).map (·.1)
theorem keys_filt {ps : List (Str × PV)} {x : PV} (h : ∀ p ∈ ps, NSP p.2) (hx : NSP x) : filt (ps.map fun p => (p.1, toV p.2)) (toV x) = keysL ps x := by
  induction ps with
  | nil => rfl
  | cons p ps ih =>
    have ih := ih fun q hq => h q (List.mem_cons_of_mem _ hq)
    have hp := h p (List.mem_cons_self ..)
    unfold filt keysL at ih ⊢
    rw [List.map_cons]
    by_cases e : p.2 = x
    · rw [List.filter_cons_of_pos (by simp [e]), List.filter_cons_of_pos (by simp [e]), List.map_cons, List.map_cons, ih]
    · have e2 : ¬ toV p.2 = toV x := fun z => e (toV_inj hp hx z)
      rw [List.filter_cons_of_neg (by simpa using e2), List.filter_cons_of_neg (by simpa using e), ih]
namespace SN
variable {K : PySem.W.Frag} [Tbs K]
noncomputable def keysEq (d j m : Nat) (hdj : d ≠ j) (hmj : m ≠ j) : SN K where
  rd := fun E => tLockE (tLc (iKeys (tVar d)) (gName j) (tTest (tOp (rEqB K) (tDGet (tVar d) (tVar j)) (tVar m))) (tVar j) [j])
  wp := fun PE ρ P => ∃ (ps : List (Str × PV)) (x : PV), ρ[d]? = some (.val (.dic (pkP ps))) ∧ ρ[m]? = some (.val x) ∧ j < ρ.length ∧ (ps.map (·.1)).Nodup ∧ (∀ p ∈ ps, NSP p.2) ∧ NSP x ∧ ps.length ≤ 1000 ∧ P ((keysL ps x).map .str) ρ
  ok := by
    intro dk F0 H0 F σ H ρ E PE P Q I e h q
    obtain ⟨ps, x, hd, hm, hj, nd, hns, hx, hl, h⟩ := h
    have hz := sizeLine_eq
    have hjσ : j < σ.length := by rw [I.len]; exact hj
    have get : ∀ {i : Nat} {s : Sl}, ρ[i]? = some s → ∃ o, σ[i]? = some o ∧ SlAt K dk F H o s := fun {i s} hi => by
      have hil : i < σ.length := by rw [I.len]; exact (List.getElem?_eq_some_iff.mp hi).1
      exact ⟨_, List.getElem?_eq_getElem hil, I.sl i s _ hi (List.getElem?_eq_getElem hil)⟩
    obtain ⟨od0, hod, sd⟩ := get hd
    obtain ⟨om, hom, sm⟩ := get hm
    cases sd with
    | val rd0 =>
      cases sm with
      | val rm =>
        have em := rep_ns rm hx
        subst em
        cases rd0 with
        | @dic a vs _ fa ha rk =>
          have evs := repK_ns rk hns
          subst evs
          rw [o_lockE]
          refine ⟨a, _, ha, trivial, fun od => ?_⟩
          generalize hG : upd H a _ = H3
          obtain ⟨k3, e3⟩ := gen_chg hG
          generalize hvP : (ps.map fun p => (p.1, toV p.2)) = vP at *
          have ndv : (vP.map (·.1)).Nodup := by rw [← hvP, List.map_map]; exact nd
          have nsv : ∀ p ∈ vP, NS p.2 := fun p hp => by
            rw [← hvP] at hp
            obtain ⟨q, hq, rfl⟩ := List.mem_map.mp hp
            exact ns_toV (hns q hq)
          have hvl : vP.length ≤ 1000 := by rw [← hvP, List.length_map]; exact hl
          have hfk : filt vP (toV x) = keysL ps x := by rw [← hvP]; exact keys_filt hns hx
          have wget : ∀ i, i ≠ j → (wipe σ [j])[i]? = σ[i]? := fun i hi => by rw [wipe_get, if_neg (by simpa using hi)]
          show iKeys (tVar d) σ H3 _
          rw [o_keysD]
          refine ⟨_, hod, a, od, rfl, .inl ⟨_, e3, ?_⟩⟩
          show LcB (Itk a od (pk vP)) (gName j) (tTest (tOp (rEqB K) (tDGet (tVar d) (tVar j)) (tVar m))) (tVar j) [j] σ H3 (fun v H' => H' a = some (.frz od (.dK (pk vP))) ∧ Q v (upd H' a (.dK (pk vP))))
          refine lb_walk walk_keys (fun D i H4 => H3 D = none ∧ Kp H3 H4 ∧ H4 D = some (.lst ((filt (vP.take i) (toV x)).map V.str))) ?_ ?_ ?_ ?_
          · intro D hD
            exact ⟨hD, (show Kp H3 H3 from fun _ _ h => h).new hD, by rw [upd_same]; rfl⟩
          · rintro D i H4 hi ⟨hD, k4, _⟩
            exact k4 _ _ e3
          · rintro D i y H4 H5 hi ⟨hD, k4, h4⟩ ⟨rfl, key, w, hkv, rfl⟩
            rw [List.getElem?_map, Option.map_eq_some_iff] at hkv
            obtain ⟨p, hp, ep⟩ := hkv
            cases ep
            have hi2 := (List.getElem?_eq_some_iff.mp hp).1
            have hmem : p ∈ vP := List.mem_of_getElem? hp
            have hg : DGet H5 a (.str p.1) (some p.2) := by
              have h : valV (pk vP) (Sum.inr p.1) = some p.2 := pk_some ndv hmem
              exact .inl ⟨_, Sum.inr p.1, .inr ⟨_, k4 _ _ e3⟩, rfl, h.symm⟩
            have hwl : j < (wipe σ [j]).length := by rw [wipe_length]; exact hjσ
            have gj : ((wipe σ [j]).set j (some (V.str p.1)))[j]? = some (some (V.str p.1)) := List.getElem?_set_self hwl
            have gd : ((wipe σ [j]).set j (some (V.str p.1)))[d]? = some (some (V.ref a)) := by rw [List.getElem?_set_ne (Ne.symm hdj), wget d hdj]; exact hod
            have gm : ((wipe σ [j]).set j (some (V.str p.1)))[m]? = some (some (toV x)) := by rw [List.getElem?_set_ne (Ne.symm hmj), wget m hmj]; exact hom
            refine ⟨(wipe_same (List.length_set ..) fun i hi => by rw [List.getElem?_set_ne (fun z => hi (by rw [z]; simp))]).trans wipe_wipe, ?_⟩
            refine ⟨_, gd, _, gj, a, _, rfl, hg, _, gm, ?_⟩
            refine ns_eq (nsv p hmem) (ns_toV hx) ?_
            refine ⟨_, rfl, ?_⟩
            rw [filt_take hp]
            have hle := filt_le (vP.take i) (toV x)
            rw [List.length_take] at hle
            refine ite2 (fun hc => ?_) fun hc => ?_
            · refine ⟨_, gj, _, h4, by rw [List.length_map]; omega, hD, fun b o e => ?_, ?_⟩
              · rw [upd_ne (ne_of_none e hD)]; exact k4 _ _ e
              · rw [upd_same, if_pos hc]; simp
            · refine ⟨hD, k4, ?_⟩
              rw [if_neg hc, List.append_nil]; exact h4
          · rintro D H4 hD ⟨_, k4, h4⟩
            refine ⟨k4 _ _ e3, ?_⟩
            have h4' : H4 D = some (.lst ((keysL ps x).map V.str)) := by
              have : (pk vP).length = vP.length := List.length_map ..
              rw [this, List.take_length, hfk] at h4
              exact h4
            have hDa : D ≠ a := fun e => by rw [e, e3] at hD; cases hD
            have hDH : H D = none := by
              rw [← hG, upd_ne hDa] at hD; exact hD
            generalize hG2 : upd H4 a _ = H5
            obtain ⟨k5, e5⟩ := gen_chg hG2
            have kp : Kp H H5 := fun b o e => by
              by_cases hb : b = a
              · subst hb
                rw [ha] at e
                rw [e5, ← e]
              · exact k5 _ _ (k4 _ _ (k3 _ _ e hb)) hb
            have h5 := k5 _ _ h4' hDa
            obtain ⟨I2, g2⟩ := I.call (I.st.self.kp kp)
            obtain ⟨f1, f2⟩ := I.st.freshOf hDH
            refine q D _ H5 F _ ρ g2 I2 h5 (strs_rep _) f1 f2 (fun e => ?_) (fun i hi => ?_) h
            · obtain ⟨y, z, w, q0⟩ := I.st.deck D e
              rw [hDH] at q0; cases q0
            · obtain ⟨u, q0⟩ := I.ownNe hi
              rw [hDH] at q0; cases q0
end SN
theorem w_SN_keysEq {K : PySem.W.Frag} [Tbs K] {d j m : Nat} {h1 : d ≠ j} {h2 : m ≠ j} {PE : PEK} {ρ : Env} {P : List PV → Env → Prop} : (SN.keysEq d j m h1 h2 : SN K).wp PE ρ P = (∃ (ps : List (Str × PV)) (x : PV), ρ[d]? = some (.val (.dic (pkP ps))) ∧ ρ[m]? = some (.val x) ∧ j < ρ.length ∧ (ps.map (·.1)).Nodup ∧ (∀ p ∈ ps, NSP p.2) ∧ NSP x ∧ ps.length ≤ 1000 ∧ P ((keysL ps x).map .str) ρ) := rfl
local macro_rules | `(tactic| walk_at "wq") => `(tactic| try simp (config := { maxSteps := 1000000 }) only [↓w_SE_var, ↓w_SE_non, ↓w_SE_bl, ↓w_SE_int, ↓w_SE_str, ↓w_SE_op, ↓w_SE_un, ↓w_SE_cb, ↓w_SE_tup, ↓w_SE_lst, ↓w_SE_ifE, ↓w_SE_isN, ↓w_SE_notN, ↓w_SA_nil, ↓w_SA_cons, ↓w_ST_not, ↓w_ST_and, ↓w_ST_or, ↓w_ST_yes, ↓w_ST_tru, ↓w_SG_name, ↓w_SS_next, ↓w_SS_brk, ↓w_SS_cont, ↓w_SS_never, ↓w_SS_seq, ↓w_SS_cut, ↓w_SS_asg, ↓w_SS_drop, ↓w_SS_ret, ↓w_SS_retN, ↓w_SS_ifS, ↓w_SS_for_, ↓w_SS_while_, ↓w_SN_lst, ↓w_SE_nl, ↓w_SS_own, ↓w_SN_lc, ↓w_SE_call, ↓w_SE_callS, ↓w_SE_pop, ↓w_SP__no, ↓w_SS_raise0, ↓w_SS_raise1, ↓w_SS_raise2, ↓w_SS_tryO, ↓w_SS_tryA, ↓w_SS_tryM, ↓w_SE_xf, ↓w_SE_isE, ↓w_SE_popAt, ↓w_SN_slO, ↓w_SN_sortedS, ↓w_SN_sortedI, ↓w_SS_asg2, ↓w_SS_par, ↓w_SE_joined, ↓w_SE_join, ↓w_SE_txtB, ↓w_SE_lenSetT, ↓w_SE_chain, ↓w_SO_inSign, ↓w_SO_eqE, ↓w_SB_all_, ↓w_SB_repr, ↓c_i0, ↓c_c0, ↓c_iC, ↓c_addS, ↓c_repS, ↓c_catT, ↓c_ixS, ↓c_ixT, ↓c_ixL, ↓c_eq_ii, ↓c_eq_ss, ↓c_eq_ns, ↓c_eq_sn, ↓c_eq_bb, ↓c_eq_nn, ↓c_eq_ni, ↓c_eq_in, ↓c_ne_ii, ↓c_ne_ss, ↓c_ne_bb, ↓c_ne_ns, ↓c_ne_sn, ↓c_ne_nn, ↓c_ne_ni, ↓c_ne_in, ↓c_inST, ↓c_inSL, ↓c_lenS, ↓c_lenQt, ↓c_lenQl, ↓c_abs, ↓c_int1i, ↓c_int1b, ↓c_tupl, ↓c_tupt, ↓c_max2, ↓c_min2, ↓c_neg, ↓c_tst, ↓c_asI, ↓c_asS, ↓c_asT, ↓c_asL, ↓c_asQl, ↓c_asQt, ↓o_tt, ↓o_ts, ↓o_tl, ↓o_ti, ↓o_st, ↓o_ss, ↓o_sl_, ↓o_si, ↓o_lt, ↓o_ls, ↓o_ll, ↓o_li, ↓o_it, ↓o_is, ↓o_il, ↓o_ii, ↓o_bt, ↓o_bs, ↓o_bl_, ↓o_bi, ↓o_nt, ↓o_ns, ↓o_nl, ↓o_ni, ↓o_dt, ↓o_ds, ↓o_dl, ↓o_di, ↓v_test, ↓v_b, ↓v_andV, ↓v_orV, ↓v_notV, ↓v_isi, ↓v_at, ↓v_slS, ↓v_slT, ↓v_slL, ↓v_listOf, ↓v_revL, ↓v_revT, ↓v_cat, ↓v_rep, ↓v_ilist, ↓v_itup, ↓v_istr, ↓v_enumL, ↓v_enumT, ↓v_rng1, ↓v_rng2, ↓c_rng1, ↓c_rng2, ↓v_zipA, ↓c_zipt, ↓c_zipl, ↓v_gtup, ↓c_unp, ↓v_gunl, ↓c_unpL, ↓v_fmt, ↓c_fmts, ↓c_fmti, ↓v_js, ↓v_lenO, ↓v_tupO, ↓v_listO, ↓v_truO, ↓v_eqEO, ↓v_append, ↓v_ixO, ↓v_extendT, ↓v_extendL, ↓v_insert, ↓v_setL, ↓v_inO, ↓v_v0, ↓v_v0o, ↓v_v0d, ↓v_vs, ↓v_o0, ↓v_os, ↓v_d0, ↓v_ds, tr_non, tr_bl, tr_int, tr_str, tr_tup, tr_lst, tr_dic, in_non, in_bl, in_int, in_str, in_tup, in_lst, in_dic, we_nil, we_cons, sl_name, sl_tup, sl_unl, sa_nil, sa_cons, pr_val, pr_own, st_app, st_nil, js_nil, List.getElem?_cons_zero, List.getElem?_cons_succ, List.set_cons_zero, List.set_cons_succ, List.length_cons, List.length_nil, List.replicate_succ, List.replicate_zero, if_true, Bool.not_true, Bool.not_false, Bool.false_eq_true, if_false, ite_true, ite_false, decide_true, decide_false, Nat.reduceSub, Nat.reduceAdd, Nat.zero_add, true_and, and_true, ↓w_SE_nl, ↓w_SE_dget, ↓w_SE_din, ↓w_SN_keysEq])
section
variable {K : PySem.W.Frag} [Tbs K]
end
end Tw
set_option Elab.async false
set_option linter.all false
set_option maxRecDepth 100000
set_option maxHeartbeats 4000000
/-! repr of data with dicts among it -/
namespace Tw
open PySem PySem.Spec PyProof.Rows L2 TL
abbrev keyD := keyX
mutual
/-- v stands for d; dicts may be among it -/
inductive DpX (K : PySem.W.Frag) (H : Hp) : V → PyData → Prop
  | non : DpX K H .non .none
  | bl (b : Bool) : DpX K H (.bl b) (.bool b)
  | int (i : Int) : DpX K H (.int i) (.int i)
  | str (x : Str) : DpX K H (.str x) (.str x)
  | lst {a : Addr} {xs : List V} {ds : List PyData} : H a = some (.lst xs) → DpXs K H xs ds → DpX K H (.ref a) (.list ds)
  | tup {a : Addr} {xs : List V} {ds : List PyData} : SqT K H a xs → DpXs K H xs ds → DpX K H (.ref a) (.tuple ds)
  | dic {a : Addr} {xs : List (Key × V)} {ds : List (PyData × PyData)} : H a = some (.dK xs) → DpXk K H xs ds → DpX K H (.ref a) (.dict ds)
inductive DpXs (K : PySem.W.Frag) (H : Hp) : List V → List PyData → Prop
  | nil : DpXs K H [] []
  | cons {v : V} {vs : List V} {d : PyData} {ds : List PyData} : DpX K H v d → DpXs K H vs ds → DpXs K H (v :: vs) (d :: ds)
inductive DpXk (K : PySem.W.Frag) (H : Hp) : List (Key × V) → List (PyData × PyData) → Prop
  | nil : DpXk K H [] []
  | cons {k : Key} {v : V} {vs : List (Key × V)} {d : PyData} {ds : List (PyData × PyData)} : DpX K H v d → DpXk K H vs ds → DpXk K H ((k, v) :: vs) ((keyD k, d) :: ds)
end
/-- it is read, and shown -/
def Rk (pr : Program) (w : World) (h : Heap) (u : Value) (d : PyData) : Prop := (∃ as, Reads h u d as) ∧ ∃ bs, ReadAtMost h d.depth bs ∧ ReprK pr w bs h d.depth u d.shown
def Rks (pr : Program) (w : World) (h : Heap) (us : List Value) (ds : List PyData) : Prop := (∃ as, ReadsAll h us ds as) ∧ ∃ bs, ReadAtMost h (PyData.depthAll ds) bs ∧ ReprAllK pr w bs h (PyData.depthAll ds) us (PyData.shownAll ds)
theorem Rks.nil {pr : Program} {w : World} {h : Heap} : Rks pr w h [] [] := ⟨⟨_, .nil⟩, [], (fun _ q => nomatch q), by simp only [PyData.shownAll]; exact .nil⟩
theorem Rks.cons {pr : Program} {w : World} {h : Heap} {u : Value} {us : List Value} {d : PyData} {ds : List PyData} (r : Rk pr w h u d) (t : Rks pr w h us ds) : Rks pr w h (u :: us) (d :: ds) := by
  obtain ⟨⟨as, r1⟩, bs, r2, r3⟩ := r
  obtain ⟨⟨cs, t1⟩, es, t2, t3⟩ := t
  refine ⟨⟨_, .cons r1 t1⟩, bs ++ es, ?_, ?_⟩
  · simp only [PyData.depthAll]
    exact (r2.mono (Nat.le_max_left ..)).append (t2.mono (Nat.le_max_right ..))
  · simp only [PyData.depthAll, PyData.shownAll]
    exact .cons ((r3.more fun b q => List.mem_append_left _ q).level_le (Nat.le_max_left ..)) (t3.more_le (fun b q => List.mem_append_right _ q) (Nat.le_max_right ..))
section
variable {X : L2.Cx} {pins : List (Addr × Obj)} {σ : L2.St} {H : Hp} {s : Shared}
theorem key_rk {pr : Program} {w : World} {h : Heap} {k : Key} {u : Value} (hk : keyIs k u = true) (hs : (keyD k).showable = true) (hz : (keyD k).shown.length ≤ sizeLine) : Rk pr w h u (keyD k) := by
  rcases keyIs_shape hk with ⟨i, t, rfl, rfl⟩ | ⟨x, t, rfl, rfl⟩
  · refine ⟨⟨_, .int i t⟩, [], (fun _ q => nomatch q), ?_⟩
    simp only [keyD, keyX, PyData.shown]
    exact .of_is (ReprIs.int t (by simpa [keyD, keyX, PyData.showable] using hs)) _ _ _
  · refine ⟨⟨_, .str x t⟩, [], (fun _ q => nomatch q), ?_⟩
    simp only [keyD, keyX, PyData.shown]
    exact .of_is (ReprIs.str x t (by simpa only [keyD, keyX, PyData.shown] using hz)) _ _ _
/-- a list, a tuple, a dict of what is shown -/
theorem rk_list {pr : Program} {w : World} {h : Heap} {a : Addr} {o : Obj} {its : List Value} {n : Nat} {ds : List PyData} (h1 : h.get? a = some o) (h2 : o.cls = .type "list") (h3 : o.data = .seq its.toArray n) (t : Rks pr w h its ds) : Rk pr w h (.ref a) (.list ds) := by
  obtain ⟨⟨as, t1⟩, bs, t2, t3⟩ := t
  have r : Reads h (.ref a) (.list ds) _ := .list h1 h2 h3 t1
  have apart : a ∉ bs := not_mem_of_deeper r (by simp only [PyData.depth]; exact Nat.lt_succ_self _) t2
  refine ⟨⟨_, r⟩, a :: bs, ReadAtMost.cons r (by simp only [PyData.depth]; exact Nat.le_succ _) t2, ?_⟩
  simp only [PyData.depth, PyData.shown]
  cases its with
  | nil => cases t1; simp only [PyData.shownAll, listText_nil]; exact ReprK.listEmpty h1 h2 h3
  | cons x l => exact ReprK.list h1 h2 h3 apart (by simpa using t3.length_eq) (fun i y e => t3.item i y (by simpa using e))
theorem rk_tuple {pr : Program} {w : World} {h : Heap} {a : Addr} {o : Obj} {its : List Value} {n : Nat} {ds : List PyData} (h1 : h.get? a = some o) (h2 : o.cls = .type "tuple") (h3 : o.data = .seq its.toArray n) (t : Rks pr w h its ds) : Rk pr w h (.ref a) (.tuple ds) := by
  obtain ⟨⟨as, t1⟩, bs, t2, t3⟩ := t
  have r : Reads h (.ref a) (.tuple ds) _ := .tuple h1 h2 h3 t1
  have apart : a ∉ bs := not_mem_of_deeper r (by simp only [PyData.depth]; exact Nat.lt_succ_self _) t2
  refine ⟨⟨_, r⟩, a :: bs, ReadAtMost.cons r (by simp only [PyData.depth]; exact Nat.le_succ _) t2, ?_⟩
  simp only [PyData.depth, PyData.shown]
  exact ReprK.tuple h1 h2 h3 apart t3
theorem rk_dict {pr : Program} {w : World} {h : Heap} {a : Addr} {o : Obj} {es : Array DictEntry} {n : Nat} {ds : List (PyData × PyData)} (h1 : h.get? a = some o) (h2 : o.cls = .type "dict") (h3 : o.data = .dict es n) (hm : (a == sysModules) = false)
    (t : Rks pr w h (es.toList.map (·.key)) (ds.map (·.1))) (t' : Rks pr w h (es.toList.map (·.val)) (ds.map (·.2))) : Rk pr w h (.ref a) (.dict ds) := by
  obtain ⟨⟨as, t1⟩, bs, t2, t3⟩ := t
  obtain ⟨⟨as', u1⟩, bs', u2, u3⟩ := t'
  have r : Reads h (.ref a) (.dict ds) _ := .dict h1 h2 h3 t1 u1
  have both : ReadAtMost h (PyData.depthKv ds) (bs ++ bs') := (t2.mono (PyData.depthAll_keys_le ds)).append (u2.mono (PyData.depthAll_vals_le ds))
  have apart : a ∉ bs ++ bs' := not_mem_of_deeper r (by simp only [PyData.depth]; exact Nat.lt_succ_self _) both
  refine ⟨⟨_, r⟩, a :: (bs ++ bs'), ReadAtMost.cons r (by simp only [PyData.depth]; exact Nat.le_succ _) both, ?_⟩
  simp only [PyData.depth, PyData.shown, PyData.shownKv_eq]
  exact ReprK.dict h1 h2 h3 hm apart (ReprEntriesK.of_two es.toList _ _ (t3.more_le (fun b q => List.mem_append_left _ q) (PyData.depthAll_keys_le ds)) (u3.more_le (fun b q => List.mem_append_right _ q) (PyData.depthAll_vals_le ds)))
mutual
theorem DpX.rk (I : Inv X pins σ H s) : ∀ {v : V} {d : PyData} {u : Value}, DpX X.K H v d → RelV v u → d.showable = true → d.shown.length ≤ sizeLine → Rk X.prog X.w s.heap u d
  | _, _, _, .non, r, _, _ => by cases r; exact ⟨⟨_, .none⟩, [], (fun _ q => nomatch q), by simp only [PyData.shown]; exact .of_is ReprIs.none _ _ _⟩
  | _, _, _, .bl b, r, _, _ => by cases r; exact ⟨⟨_, .bool b⟩, [], (fun _ q => nomatch q), by simp only [PyData.shown]; exact .of_is (ReprIs.bool b) _ _ _⟩
  | _, _, _, .int i, r, hs, hz => by obtain ⟨t, rfl⟩ := r; exact key_rk (k := .inl i) (by show Value.isInt i (.int i t) = true; simp [Value.isInt]) hs hz
  | _, _, _, .str x, r, hs, hz => by obtain ⟨t, rfl⟩ := r; exact key_rk (k := .inr x) (by show Value.isStrOf x (.str x t) = true; simp [Value.isStrOf]) hs hz
  | _, _, _, .lst e t, r, hs, hz => by
    cases r
    obtain ⟨its, rv, ⟨o, n, ho, hc, _, hd⟩, _⟩ := I.list (SqL.of e)
    refine rk_list ho hc hd (DpXs.rk I t rv (by simpa only [PyData.showable] using hs) fun z q => Nat.le_trans (listText_mem_le q) (by simpa only [PyData.shown] using hz))
  | _, _, _, .tup e t, r, hs, hz => by
    cases r
    obtain ⟨its, rv, ⟨o, ho, hc, n, hd⟩, _⟩ := I.tuple e
    exact rk_tuple ho hc hd (DpXs.rk I t rv (by simpa only [PyData.showable] using hs) fun z q => Nat.le_trans (tupleText_mem_le q) (by simpa only [PyData.shown] using hz))
  | _, _, _, .dic e t, r, hs, hz => by
    cases r
    obtain ⟨_, hm, vs, kv, o, es, ep, ho, hx, hd, _, hp, _⟩ := I.hok _ _ e
    obtain ⟨t1, t2⟩ := DpXk.rk I t kv hp (by simpa only [PyData.showable] using hs) fun z q => Nat.le_trans (dictText_mem_le q) (by simpa only [PyData.shown] using hz)
    exact rk_dict ho hx.1 hd hm t1 t2
theorem DpXs.rk (I : Inv X pins σ H s) : ∀ {vs : List V} {ds : List PyData} {us : List Value}, DpXs X.K H vs ds → Vals vs us → PyData.showableAll ds = true → (∀ z ∈ PyData.shownAll ds, z.length ≤ sizeLine) → Rks X.prog X.w s.heap us ds
  | _, _, _, .nil, r, _, _ => by cases r; exact .nil
  | _, _, _, .cons a t, r, hs, hz => by
    cases r with
    | cons r1 r2 =>
      have hs' := Bool.and_eq_true_iff.mp (by simpa only [PyData.showableAll] using hs)
      exact .cons (DpX.rk I a r1 hs'.1 (hz _ (by simp only [PyData.shownAll]; exact List.mem_cons_self ..))) (DpXs.rk I t r2 hs'.2 fun z q => hz z (by simp only [PyData.shownAll]; exact List.mem_cons_of_mem _ q))
theorem DpXk.rk (I : Inv X pins σ H s) : ∀ {vs : List (Key × V)} {ds : List (PyData × PyData)} {us : List (Key × Value)} {es : List DictEntry}, DpXk X.K H vs ds → KV vs us → Pairs (mixKind X.prog X.w) es us → PyData.showableKv ds = true → (∀ z ∈ PyData.shownKv ds, z.length ≤ sizeLine) →
    Rks X.prog X.w s.heap (es.map (·.key)) (ds.map (·.1)) ∧ Rks X.prog X.w s.heap (es.map (·.val)) (ds.map (·.2))
  | _, _, _, _, .nil, r, p, _, _ => by cases r; cases p; exact ⟨.nil, .nil⟩
  | _, _, _, _, .cons a t, r, p, hs, hz => by
    cases r with
    | cons r1 r2 =>
      cases p with
      | cons p1 p2 p3 =>
        obtain ⟨rk, rv⟩ := r1
        have hs' := Bool.and_eq_true_iff.mp (by simpa only [PyData.showableKv] using hs)
        have hs2 := Bool.and_eq_true_iff.mp hs'.1
        have hz0 := hz _ (by simp only [PyData.shownKv]; exact List.mem_cons_self ..)
        rw [strLen_append, strLen_append] at hz0
        obtain ⟨q1, q2⟩ := DpXk.rk I t r2 p3 hs'.2 fun z q => hz z (by simp only [PyData.shownKv]; exact List.mem_cons_of_mem _ q)
        have e1 : keyIs _ _ = true := p1
        have e2 : _ = _ := rk
        rw [← e2] at e1
        have e3 := rv
        rw [← p2] at e3
        refine ⟨.cons (key_rk e1 hs2.1 (by omega)) q1, .cons (DpX.rk I a e3 hs2.2 (Nat.le_trans (Nat.le_add_left ..) hz0)) q2⟩
end
end
/-- repr(x) of data of any kind -/
def rReprX (K : PySem.W.Frag) : List V → Hp → VK → Prop := fun xs H Q => ∃ (v : V) (d : PyData), xs = [v] ∧ DpX K H v d ∧ d.showable = true ∧ d.depth ≤ 350 ∧ d.shown.length ≤ sizeLine ∧ Q (.str d.shown) H
theorem call_reprX {X : L2.Cx} {k : Nat} (hr : Room k X.A) (hk : 10 ≤ k) (hq : Quiet X.A) : CallR X (.builtin "repr") (rReprX X.K) := by
  intro pins s σ H xs us Q I r h
  obtain ⟨v, d, rfl, hd, h1, h3, h4, q⟩ := h
  obtain ⟨u, rfl, ru⟩ := r.one
  have hun := hr.un
  have hu : X.A.units + 1 + d.depth < cLine := by omega
  cases hd with
  | non => cases ru; exact PySem.P.repr_of_none ⟨.str "None", H, I.tok _, ⟨_, rfl⟩, q⟩
  | bl b => cases ru; refine PySem.P.repr_of_bool ⟨.str (if b then "True" else "False"), H, I.tok _, ⟨_, rfl⟩, ?_⟩; cases b <;> simpa only [PyData.shown] using q
  | int i => exact SkE.call_repr_int pins s σ H _ _ Q I r ⟨i, rfl, by simpa [PyData.showable] using h1, by simpa only [PyData.shown] using q⟩
  | str x => obtain ⟨t, rfl⟩ := ru; exact PySem.P.repr_of_str ⟨.str (reprText x), H, I.tok _, ⟨_, rfl⟩, by simpa only [PyData.shown] using q⟩ (by simpa only [PyData.shown] using h4)
  | lst e t =>
    cases ru
    obtain ⟨its, rv, ⟨o, n, ho, hc, _, hdt⟩, _⟩ := I.list (SqL.of e)
    simp only [PyData.showable] at h1
    simp only [PyData.depth] at hu
    simp only [PyData.shown] at h4 q
    have w := DpXs.rk I t rv h1 fun z m => Nat.le_trans (listText_mem_le m) h4
    obtain ⟨⟨as, t1⟩, bs, t2, t3⟩ := w
    have apart : _ ∉ bs := not_mem_of_deeper (.list ho hc hdt t1) (by simp only [PyData.depth]; exact Nat.lt_succ_self _) t2
    refine call_repr_slot (by omega) ⟨o, ho, hc⟩ F.slot_list_repr.toG ?_
    cases its with
    | nil =>
      cases t1
      simp only [PyData.shownAll, listText_nil] at q
      exact call_list_repr_empty ⟨o, ho, hc⟩ ho hdt ⟨_, _, rfl, .str "[]", H, I.tok _, ⟨_, rfl⟩, q⟩
    | cons x l =>
      exact call_list_reprK ho hc hdt apart (by simpa using t3.length_eq) (fun i y e => t3.item i y (by simpa using e)) hq (fun b _ => Clear.nil b) hu (fun _ _ e => e) (fun h' t tk hk => ⟨_, _, rfl, .str _, H, I.kept fun b o e => hk b o e, ⟨t, rfl⟩, q⟩) h4
  | tup e t =>
    cases ru
    obtain ⟨its, rv, ⟨o, ho, hc, n, hdt⟩, _⟩ := I.tuple e
    simp only [PyData.showable] at h1
    simp only [PyData.depth] at hu
    simp only [PyData.shown] at h4 q
    obtain ⟨⟨as, t1⟩, bs, t2, t3⟩ := DpXs.rk I t rv h1 fun z m => Nat.le_trans (tupleText_mem_le m) h4
    have apart : _ ∉ bs := not_mem_of_deeper (.tuple ho hc hdt t1) (by simp only [PyData.depth]; exact Nat.lt_succ_self _) t2
    refine call_repr_slot (by omega) ⟨o, ho, hc⟩ F.slot_tuple_repr ?_
    exact call_tuple_reprK ho hc hdt apart t3 hq (fun b _ => Clear.nil b) hu (fun _ _ e => e) (fun h' t tk hk => ⟨_, _, rfl, .str _, H, I.kept fun b o e => hk b o e, ⟨t, rfl⟩, q⟩) h4
  | dic e t =>
    cases ru
    obtain ⟨_, hm, vs, kv, o, es, ep, ho, hx, hdt, _, hp, _⟩ := I.hok _ _ e
    simp only [PyData.showable] at h1
    simp only [PyData.depth] at hu
    simp only [PyData.shown, PyData.shownKv_eq] at h4 q
    obtain ⟨⟨⟨as, t1⟩, bs, t2, t3⟩, ⟨as', u1⟩, bs', u2, u3⟩ := DpXk.rk I t kv hp h1 fun z m => Nat.le_trans (dictText_mem_le m) (by rw [PyData.shownKv_eq]; exact h4)
    have both : ReadAtMost s.heap (PyData.depthKv _) (bs ++ bs') := (t2.mono (PyData.depthAll_keys_le _)).append (u2.mono (PyData.depthAll_vals_le _))
    have apart : _ ∉ bs ++ bs' := not_mem_of_deeper (.dict ho hx.1 hdt t1 u1) (by simp only [PyData.depth]; exact Nat.lt_succ_self _) both
    refine call_repr_slot (by omega) ⟨o, ho, hx.1⟩ F.slot_dict_repr ?_
    exact call_dict_reprK ho hx.1 hdt hm apart (ReprEntriesK.of_two es.toList _ _ (t3.more_le (fun b m => List.mem_append_left _ m) (PyData.depthAll_keys_le _)) (u3.more_le (fun b m => List.mem_append_right _ m) (PyData.depthAll_vals_le _))) hq (fun b _ => Clear.nil b) hu (fun _ _ e => e)
      (fun h' t tk hk => ⟨_, _, rfl, .str _, H, I.kept fun b o e => hk b o e, ⟨t, rfl⟩, q⟩) h4
section
variable {K : PySem.W.Frag} [Tbs K] {dk : Option Addr} {F : Addr → Prop} {H : Hp}
mutual
theorem Rep.dpX : ∀ {v : V} {x : PV}, Rep K dk F H v x → x.plX = true → DpX K H v x.pdX
  | _, _, .non, _ => .non
  | _, _, .bl b, _ => .bl b
  | _, _, .int i, _ => .int i
  | _, _, .str x, _ => .str x
  | _, _, .tup s r, h => .tup s (RepL.dpX r h)
  | _, _, .lst f e r, h => .lst e (RepL.dpX r h)
  | _, _, .dic f e r, h => .dic e (RepK.dpX r h)
  | _, _, .deck e, h => by cases h
  | _, _, .frt s t r, h => .tup s (RepL.dpX r h)
theorem RepL.dpX : ∀ {vs : List V} {xs : List PV}, RepL K dk F H vs xs → PV.plXs xs = true → DpXs K H vs (PV.pdXs xs)
  | _, _, .nil, _ => .nil
  | _, _, .cons r t, h => by
    have h' := Bool.and_eq_true_iff.mp h
    exact .cons (Rep.dpX r h'.1) (RepL.dpX t h'.2)
theorem RepK.dpX : ∀ {vs : List (Key × V)} {xs : List (Key × PV)}, RepK K dk F H vs xs → PV.plXk xs = true → DpXk K H vs (PV.pdXk xs)
  | _, _, .nil, _ => .nil
  | _, _, .cons r t, h => by
    have h' := Bool.and_eq_true_iff.mp h
    exact .cons (Rep.dpX r h'.1) (RepK.dpX t h'.2)
end
end
namespace SB
variable {K : PySem.W.Frag} [Tbs K]
/-- repr of data of any kind -/
def reprX : SB K where
  rd := rReprX K
  wp := fun xs P => ∃ x, xs = [x] ∧ x.plX = true ∧ x.pdX.showable = true ∧ x.pdX.depth ≤ 350 ∧ x.pdX.shown.length ≤ sizeLine ∧ P (.str x.pdX.shown)
  ok := by
    rintro dk F0 H0 F σ H ρ vs xs P Q I r ⟨x, rfl, a, b, c, d, h⟩ q
    cases r with
    | cons r1 r2 =>
      cases r2
      exact ⟨_, _, rfl, r1.dpX a, b, c, d, q _ _ _ _ Grow.refl I (.str _) h⟩
end SB
end Tw
set_option Elab.async false
set_option linter.all false
set_option maxRecDepth 100000
set_option maxHeartbeats 4000000
/-! k05: the clause of _law_refused; isinstance of an error with a built-in class; any thing in a list of texts -/
namespace Tw
open PySem PySem.Spec PyProof.Rows L2 TL
namespace SE
variable {K : PySem.W.Frag} [Tbs K]
/-- isinstance(e, T), e the error at hand, T a built-in class -/
def isET (a : Addr) (cls : Value) (d : Option Addr) (C : Addr) (T : String) (i : Nat) : SE K where
  rd := fun _ => tCB (rIsD K C cls d a) (tCons (tVar i) (tCons (tC (.ty T)) tNil))
  wp := fun _ ρ P => ∃ er b, ρ[i]? = some (.err a d er) ∧ er.2 ≠ [] ∧ cls = .ref C ∧ PySem.W.kitOne K (.ref C) (.type T) = some b ∧ P (.bl b) ρ
  ok := by
    intro dk F0 H0 F σ H ρ E PE P Q I e h q
    obtain ⟨er, b, hi, hn, hc, hk, h⟩ := h
    obtain ⟨o, ho, s⟩ := I.slot hi
    cases s with
    | err ea =>
      rcases ea with ⟨_, e2⟩ | ⟨p, fv, rfl, fp, hp, r⟩
      · exact absurd e2 hn
      · exact ⟨_, ho, .ty T, .type T, b, rfl, hc, ⟨p, fv, rfl, hp⟩, fun u z => z, hk, q _ _ _ _ _ Grow.refl I (.bl _) h⟩
end SE
theorem w_SE_isET {K : PySem.W.Frag} [Tbs K] {a : Addr} {cls : Value} {d : Option Addr} {C : Addr} {T : String} {i : Nat} {u0 : PEK} {ρ : Env} {P : PV → Env → Prop} : (SE.isET a cls d C T i : SE K).wp u0 ρ P = (∃ er b, ρ[i]? = some (.err a d er) ∧ er.2 ≠ [] ∧ cls = .ref C ∧ PySem.W.kitOne K (.ref C) (.type T) = some b ∧ P (.bl b) ρ) := rfl
/-! ### any thing in a list of texts -/
abbrev rInXL (K : PySem.W.Frag) (neg : Bool) : R2 := fun x y H Q => ∃ (p : Addr) (zs : List Str), y = .ref p ∧ SqL K H p (zs.map V.str) ∧ ((∃ z, x = .str z ∧ Q (.bl (neg != decide (z ∈ zs))) H) ∨ (Nt K H x ∧ Q (.bl neg) H))
section
variable {X : L2.Cx} {k : Nat}
theorem op_notInXL (hr : Room k X.A) : OpR X (compareOp .NotIn) (rInXL X.K true) := by
  intro pins s σ H x y v u Q I rx ry h
  obtain ⟨p, zs, rfl, hp, h⟩ := h
  rcases h with ⟨z, rfl, q⟩ | ⟨hx, q⟩
  · refine op_notIn_seq pins s σ H _ _ v u Q I rx ry ⟨p, _, rfl, .inl hp, rfl, flat_strs zs, ?_⟩
    simp only [if_true]
    rw [inV_str]; simpa using q
  · cases ry
    obtain ⟨its, rv, pl, _⟩ := I.list hp
    refine SeqAt.notIn_listAt (fun _ => false) pl.isList (fun w hw => nt_all I hx rx (by have := hr.un; rw [Around.in1_units]; omega) rv w (by simpa using hw)) ⟨.bl _, H, I, rfl, ?_⟩
    have : (its.toArray.any fun _ => false) = false := by simp
    rw [this]; exact q
end
namespace SO
variable {K : PySem.W.Frag} [Tbs K]
def inA (neg : Bool) : SO K where
  rd := rInXL K neg
  wp := fun x y P => ∃ zs : List Str, y = sL zs ∧ x.vok = true ∧ P (.bl (neg != thereP zs x))
  ok := by
    intro dk F0 H0 F σ H ρ v w x y P Q I rx ry h q
    obtain ⟨zs, rfl, hv, h⟩ := h
    obtain ⟨p, rfl, fp, hl⟩ := rep_sL ry
    refine ⟨p, zs, rfl, SqL.of hl, ?_⟩
    cases x with
    | str z => cases rx; exact .inl ⟨z, rfl, q _ _ _ _ Grow.refl I (.bl _) h⟩
    | non => cases rx; exact .inr ⟨.oth .non, by simpa [thereP] using q _ _ _ _ Grow.refl I (.bl _) h⟩
    | bl b => cases rx; exact .inr ⟨.oth (.bl b), by simpa [thereP] using q _ _ _ _ Grow.refl I (.bl _) h⟩
    | int b => cases rx; exact .inr ⟨.oth (.int b), by simpa [thereP] using q _ _ _ _ Grow.refl I (.bl _) h⟩
    | tup l => cases rx with
      | tup s r => exact .inr ⟨.tup s, by simpa [thereP] using q _ _ _ _ Grow.refl I (.bl _) h⟩
    | lst l => cases rx with
      | lst f s r => exact .inr ⟨.oth (.lst s), by simpa [thereP] using q _ _ _ _ Grow.refl I (.bl _) h⟩
    | dic l => cases rx with
      | dic f s r => exact .inr ⟨.oth (.dic s), by simpa [thereP] using q _ _ _ _ Grow.refl I (.bl _) h⟩
    | deck => cases hv
    | frt l => cases hv
end SO
theorem w_SO_inA {K : PySem.W.Frag} [Tbs K] {neg : Bool} {x y : PV} {P : PV → Prop} : (SO.inA neg : SO K).wp x y P = (∃ zs : List Str, y = sL zs ∧ x.vok = true ∧ P (.bl (neg != thereP zs x))) := rfl
end Tw
set_option Elab.async false
set_option linter.all false
set_option maxRecDepth 100000
set_option maxHeartbeats 4000000
/-! the law k08: its defs -/
namespace Tw
open PySem PySem.Spec PyProof.Rows L2
local macro_rules | `(tactic| walk_at "wp") => `(tactic| try simp (config := { maxSteps := 1000000 }) only [↓w_SE_var, ↓w_SE_non, ↓w_SE_bl, ↓w_SE_int, ↓w_SE_str, ↓w_SE_op, ↓w_SE_un, ↓w_SE_cb, ↓w_SE_tup, ↓w_SE_lst, ↓w_SE_ifE, ↓w_SE_isN, ↓w_SE_notN, ↓w_SA_nil, ↓w_SA_cons, ↓w_ST_not, ↓w_ST_and, ↓w_ST_or, ↓w_ST_yes, ↓w_ST_tru, ↓w_SG_name, ↓w_SS_next, ↓w_SS_brk, ↓w_SS_cont, ↓w_SS_never, ↓w_SS_seq, ↓w_SS_cut, ↓w_SS_asg, ↓w_SS_drop, ↓w_SS_ret, ↓w_SS_retN, ↓w_SS_ifS, ↓w_SS_for_, ↓w_SS_while_, ↓w_SN_lst, ↓w_SE_nl, ↓w_SS_own, ↓w_SN_lc, ↓w_SE_call, ↓w_SE_callS, ↓w_SE_pop, ↓w_SP__no, ↓w_SS_raise0, ↓w_SS_raise1, ↓w_SS_raise2, ↓w_SS_tryO, ↓w_SS_tryA, ↓w_SS_tryM, ↓w_SE_xf, ↓w_SE_isE, ↓w_SE_popAt, ↓w_SN_slO, ↓w_SN_sortedS, ↓w_SN_sortedI, ↓w_SS_asg2, ↓w_SS_par, ↓w_SE_joined, ↓w_SE_join, ↓w_SE_txtB, ↓w_SE_lenSetT, ↓w_SE_chain, ↓w_SO_inSign, ↓w_SO_eqE, ↓w_SB_all_, ↓w_SB_repr, ↓c_i0, ↓c_c0, ↓c_iC, ↓c_addS, ↓c_repS, ↓c_catT, ↓c_ixS, ↓c_ixT, ↓c_ixL, ↓c_eq_ii, ↓c_eq_ss, ↓c_eq_ns, ↓c_eq_sn, ↓c_eq_bb, ↓c_eq_nn, ↓c_eq_ni, ↓c_eq_in, ↓c_ne_ii, ↓c_ne_ss, ↓c_ne_bb, ↓c_ne_ns, ↓c_ne_sn, ↓c_ne_nn, ↓c_ne_ni, ↓c_ne_in, ↓c_inST, ↓c_inSL, ↓c_lenS, ↓c_lenQt, ↓c_lenQl, ↓c_abs, ↓c_int1i, ↓c_int1b, ↓c_tupl, ↓c_tupt, ↓c_max2, ↓c_min2, ↓c_neg, ↓c_tst, ↓c_asI, ↓c_asS, ↓c_asT, ↓c_asL, ↓c_asQl, ↓c_asQt, ↓o_tt, ↓o_ts, ↓o_tl, ↓o_ti, ↓o_st, ↓o_ss, ↓o_sl_, ↓o_si, ↓o_lt, ↓o_ls, ↓o_ll, ↓o_li, ↓o_it, ↓o_is, ↓o_il, ↓o_ii, ↓o_bt, ↓o_bs, ↓o_bl_, ↓o_bi, ↓o_nt, ↓o_ns, ↓o_nl, ↓o_ni, ↓o_dt, ↓o_ds, ↓o_dl, ↓o_di, ↓v_test, ↓v_b, ↓v_andV, ↓v_orV, ↓v_notV, ↓v_isi, ↓v_at, ↓v_slS, ↓v_slT, ↓v_slL, ↓v_listOf, ↓v_revL, ↓v_revT, ↓v_cat, ↓v_rep, ↓v_ilist, ↓v_itup, ↓v_istr, ↓v_enumL, ↓v_enumT, ↓v_rng1, ↓v_rng2, ↓c_rng1, ↓c_rng2, ↓v_zipA, ↓c_zipt, ↓c_zipl, ↓v_gtup, ↓c_unp, ↓v_gunl, ↓c_unpL, ↓v_fmt, ↓c_fmts, ↓c_fmti, ↓v_js, ↓v_lenO, ↓v_tupO, ↓v_listO, ↓v_truO, ↓v_eqEO, ↓v_append, ↓v_ixO, ↓v_extendT, ↓v_extendL, ↓v_insert, ↓v_setL, ↓v_inO, ↓v_v0, ↓v_v0o, ↓v_v0d, ↓v_vs, ↓v_o0, ↓v_os, ↓v_d0, ↓v_ds, tr_non, tr_bl, tr_int, tr_str, tr_tup, tr_lst, tr_dic, in_non, in_bl, in_int, in_str, in_tup, in_lst, in_dic, we_nil, we_cons, sl_name, sl_tup, sl_unl, sa_nil, sa_cons, pr_val, pr_own, st_app, st_nil, js_nil, ↓w_for0, ↓w_for1, List.getElem?_cons_zero, List.getElem?_cons_succ, List.set_cons_zero, List.set_cons_succ, List.length_cons, List.length_nil, List.replicate_succ, List.replicate_zero, if_true, Bool.not_true, Bool.not_false, Bool.false_eq_true, if_false, ite_true, ite_false, decide_true, decide_false, Nat.reduceSub, Nat.reduceAdd, Nat.zero_add, true_and, and_true, ↓w_SS_par3, ↓w_SE_dnew, ↓w_SE_dcon])
def okB : PV → Bool
  | .str z => decide (z.length ≤ 200)
  | .deck => false
  | .frt _ => false
  | _ => true
/-- a gap that may be spoilt -/
def GapOk (n : Nat) (g : PV) : Prop := g.tyN ≠ none ∧ ∀ ys, g = .tup ys → ys.length ≤ n ∧ ∀ y ∈ ys, okB y = true
def X_l_odd (K : PySem.W.Frag) [Tbs K] : SS K :=
  (SS.seq (SS.asg (SE.nl (SN.lst (SA.cons SE.non (SA.cons (SE.bl true) (SA.cons (SE.bl false) (SA.cons (SE.int 0) (SA.cons (SE.int 1) (SA.cons (SE.op (SO.i0 fun i j => i - j) (SE.int 0) (SE.int 7)) (SA.cons (SE.op (SO.iC CPow fun i j => i ^ j.toNat) (SE.int 10) (SE.int 39)) (SA.cons (SE.str "") (SA.cons (SE.str "A") (SA.cons (SE.str "a ") (SA.cons (SE.str "+a") (SA.cons (SE.str "aaaaaaaaa") (SA.cons (SE.str "a1") (SA.cons (SE.str "z") (SA.cons (SE.str "zzzzzzzz") SA.nil))))))))))))))))) (SG.name 1))
  (SS.seq (SS.asg (SE.nl (SN.cat (SE.var 1) (SE.nl (SN.lst (SA.cons (SE.str "`") (SA.cons (SE.str "a\n") (SA.cons (SE.str "{") (SA.cons (SE.str "a{") (SA.cons (SE.nl (SN.lst (SA.cons (SE.str "z") (SA.cons (SE.tup SA.nil) SA.nil)))) (SA.cons (SE.dcon [("a", 1), ("b", 2)]) SA.nil)))))))))) (SG.name 1))
  (SS.seq (SS.asg (SE.nl (SN.cat (SE.var 1) (SE.nl (SN.lst (SA.cons (SE.tup (SA.cons (SE.str "a") SA.nil)) (SA.cons (SE.tup (SA.cons (SE.str "z") (SA.cons (SE.tup SA.nil) SA.nil))) (SA.cons (SE.nl (SN.lst (SA.cons (SE.str "a") SA.nil))) (SA.cons (SE.nl (SN.lst SA.nil)) (SA.cons SE.dnew (SA.cons (SE.dcon [("a", 1)]) (SA.cons (SE.tup SA.nil) (SA.cons (SE.tup (SA.cons (SE.tup SA.nil) (SA.cons (SE.tup SA.nil) SA.nil))) (SA.cons (SE.tup (SA.cons (SE.tup (SA.cons (SE.str "z") (SA.cons (SE.tup SA.nil) SA.nil))) SA.nil)) (SA.cons (SE.str "first") SA.nil)))))))))))))) (SG.name 1))
  (SS.ret (SE.call (sp_l_pick K) psp_l_pick (hs_l_pick K) (SA.cons (SE.var 0) (SA.cons (SE.var 1) SA.nil)))))))
section
variable {K : PySem.W.Frag} [Tbs K]
def oddL : List PV := [.non, .bl true, .bl false, .int 0, .int 1, .int (-7), .int (10 ^ 39), .str "", .str "A", .str "a ", .str "+a", .str "aaaaaaaaa", .str "a1", .str "z", .str "zzzzzzzz",
  .str "`", .str "a\n", .str "{", .str "a{", .lst [.str "z", .tup []], .dic (dcon2 [("a", 1), ("b", 2)]),
  .tup [.str "a"], .tup [.str "z", .tup []], .lst [.str "a"], .lst [], .dic [], .dic (dcon2 [("a", 1)]), .tup [], .tup [.tup [], .tup []], .tup [.tup [.str "z", .tup []]], .str "first"]
theorem GapOk.items {n : Nat} {g : PV} (h : GapOk n g) : (itemsOf g).length ≤ n ∧ ∀ y ∈ itemsOf g, okB y = true := by
  cases g <;> first | exact ⟨(h.2 _ rfl).1, (h.2 _ rfl).2⟩ | exact ⟨Nat.zero_le _, fun y hy => by cases hy⟩
theorem GapOk.mono {n m : Nat} {g : PV} (h : GapOk n g) (hm : n ≤ m) : GapOk m g := ⟨h.1, fun ys e => ⟨Nat.le_trans (h.2 ys e).1 hm, (h.2 ys e).2⟩⟩
end
end Tw
set_option Elab.async false
set_option linter.all false
set_option maxRecDepth 100000
set_option maxHeartbeats 4000000
/-! law k05: names that are not there are told -/
namespace Tw
open PySem PySem.Spec PyProof.Rows L2 TL
theorem w_SE_lamT {K : PySem.W.Frag} [Tbs K] {C : Addr} {i n : Nat} {cl : Addr → Value → Option Addr → SS K} {rest : SS K} {body : SE K} {u0 : PEK} {ρ : Env} {P : PV → Env → Prop} : (SE.lamT C i n cl rest body : SE K).wp u0 ρ P = (1 ≤ n ∧ body.wp (fun _ er => ∃ b, PySem.W.exmOne K (.ref er.1) (.ref C) = some b ∧ (b = true → ∀ a d, (cl a (.ref er.1) d).wp (fun _ _ => False) { nx := fun ρ2 => rest.wp (fun _ _ => False) { nx := fun _ => P .non ρ, rt := fun x => P x ρ } (ρ2.set i .no), rt := fun x => P x ρ } ((List.replicate n .no).set i (.err a d er))) ∧ (b = false → False)) (ρ.map seen) fun _ _ => rest.wp (fun _ _ => False) { nx := fun _ => P .non ρ, rt := fun x => P x ρ } (List.replicate n .no)) := rfl
local macro_rules | `(tactic| walk_at "wq") => `(tactic| try simp (config := { maxSteps := 1000000 }) only [↓w_SE_var, ↓w_SE_non, ↓w_SE_bl, ↓w_SE_int, ↓w_SE_str, ↓w_SE_op, ↓w_SE_un, ↓w_SE_cb, ↓w_SE_tup, ↓w_SE_lst, ↓w_SE_ifE, ↓w_SE_isN, ↓w_SE_notN, ↓w_SA_nil, ↓w_SA_cons, ↓w_ST_not, ↓w_ST_and, ↓w_ST_or, ↓w_ST_yes, ↓w_ST_tru, ↓w_SG_name, ↓w_SS_next, ↓w_SS_brk, ↓w_SS_cont, ↓w_SS_never, ↓w_SS_seq, ↓w_SS_cut, ↓w_SS_asg, ↓w_SS_drop, ↓w_SS_ret, ↓w_SS_retN, ↓w_SS_ifS, ↓w_SS_for_, ↓w_SS_while_, ↓w_SN_lst, ↓w_SE_nl, ↓w_SS_own, ↓w_SN_lc, ↓w_SE_call, ↓w_SE_callS, ↓w_SE_pop, ↓w_SP__no, ↓w_SS_raise0, ↓w_SS_raise1, ↓w_SS_raise2, ↓w_SS_tryO, ↓w_SS_tryA, ↓w_SS_tryM, ↓w_SE_xf, ↓w_SE_isE, ↓w_SE_popAt, ↓w_SN_slO, ↓w_SN_sortedS, ↓w_SN_sortedI, ↓w_SS_asg2, ↓w_SS_par, ↓w_SE_joined, ↓w_SE_join, ↓w_SE_txtB, ↓w_SE_lenSetT, ↓w_SE_chain, ↓w_SO_inSign, ↓w_SO_eqE, ↓w_SB_all_, ↓w_SB_repr, ↓c_i0, ↓c_c0, ↓c_iC, ↓c_addS, ↓c_repS, ↓c_catT, ↓c_ixS, ↓c_ixT, ↓c_ixL, ↓c_eq_ii, ↓c_eq_ss, ↓c_eq_ns, ↓c_eq_sn, ↓c_eq_bb, ↓c_eq_nn, ↓c_eq_ni, ↓c_eq_in, ↓c_ne_ii, ↓c_ne_ss, ↓c_ne_bb, ↓c_ne_ns, ↓c_ne_sn, ↓c_ne_nn, ↓c_ne_ni, ↓c_ne_in, ↓c_inST, ↓c_inSL, ↓c_lenS, ↓c_lenQt, ↓c_lenQl, ↓c_abs, ↓c_int1i, ↓c_int1b, ↓c_tupl, ↓c_tupt, ↓c_max2, ↓c_min2, ↓c_neg, ↓c_tst, ↓c_asI, ↓c_asS, ↓c_asT, ↓c_asL, ↓c_asQl, ↓c_asQt, ↓o_tt, ↓o_ts, ↓o_tl, ↓o_ti, ↓o_st, ↓o_ss, ↓o_sl_, ↓o_si, ↓o_lt, ↓o_ls, ↓o_ll, ↓o_li, ↓o_it, ↓o_is, ↓o_il, ↓o_ii, ↓o_bt, ↓o_bs, ↓o_bl_, ↓o_bi, ↓o_nt, ↓o_ns, ↓o_nl, ↓o_ni, ↓o_dt, ↓o_ds, ↓o_dl, ↓o_di, ↓v_test, ↓v_b, ↓v_andV, ↓v_orV, ↓v_notV, ↓v_isi, ↓v_at, ↓v_slS, ↓v_slT, ↓v_slL, ↓v_listOf, ↓v_revL, ↓v_revT, ↓v_cat, ↓v_rep, ↓v_ilist, ↓v_itup, ↓v_istr, ↓v_enumL, ↓v_enumT, ↓v_rng1, ↓v_rng2, ↓c_rng1, ↓c_rng2, ↓v_zipA, ↓c_zipt, ↓c_zipl, ↓v_gtup, ↓c_unp, ↓v_gunl, ↓c_unpL, ↓v_fmt, ↓c_fmts, ↓c_fmti, ↓v_js, ↓v_lenO, ↓v_tupO, ↓v_listO, ↓v_truO, ↓v_eqEO, ↓v_append, ↓v_ixO, ↓v_extendT, ↓v_extendL, ↓v_insert, ↓v_setL, ↓v_inO, ↓v_v0, ↓v_v0o, ↓v_v0d, ↓v_vs, ↓v_o0, ↓v_os, ↓v_d0, ↓v_ds, tr_non, tr_bl, tr_int, tr_str, tr_tup, tr_lst, tr_dic, in_non, in_bl, in_int, in_str, in_tup, in_lst, in_dic, we_nil, we_cons, sl_name, sl_tup, sl_unl, sa_nil, sa_cons, pr_val, pr_own, st_app, st_nil, js_nil, List.getElem?_cons_zero, List.getElem?_cons_succ, List.set_cons_zero, List.set_cons_succ, List.length_cons, List.length_nil, List.replicate_succ, List.replicate_zero, if_true, Bool.not_true, Bool.not_false, Bool.false_eq_true, if_false, ite_true, ite_false, decide_true, decide_false, Nat.reduceSub, Nat.reduceAdd, Nat.zero_add, true_and, and_true, ↓w_SE_nl, ↓w_SE_lamT, ↓w_SE_isET, ↓w_SE_dcon, ↓w_SE_dnew, ↓w_SO_inA])
inductive Cf05 (K : PySem.W.Frag) (T C : Addr) : Prop
  | mk (e : PySem.W.exmOne K (.ref C) (.ref C) = some true) (k1 : PySem.W.kitOne K (.ref C) (.ref T) = some false) (k2 : PySem.W.kitOne K (.ref C) (.type "ValueError") = some false) (k3 : PySem.W.kitOne K (.ref C) (.type "LookupError") = some true)
/-- it is plain, and a list of it can be shown -/
structure R5 (x : PV) : Prop where
  vok : x.vok = true
  pl : (PV.lst [x]).plX = true
  sh : (PV.lst [x]).pdX.showable = true
  dp : (PV.lst [x]).pdX.depth ≤ 350
  ln : (PV.lst [x]).pdX.shown.length ≤ sizeLine
def r5B (x : PV) : Bool := x.vok && ((PV.lst [x]).plX && ((PV.lst [x]).pdX.showable && (decide ((PV.lst [x]).pdX.depth ≤ 350) && decide ((PV.lst [x]).pdX.shown.length ≤ 1000))))
theorem oddL_5 : oddL.all r5B = true := by decide +kernel
theorem odd_r5 {x : PV} (h : x ∈ oddL) : R5 x := by
  have := List.all_eq_true.mp oddL_5 x h
  simp only [r5B, Bool.and_eq_true, decide_eq_true_eq] at this
  obtain ⟨a, b, c, d, e⟩ := this
  have hz := sizeLine_eq
  exact ⟨a, b, c, d, by omega⟩
def psp_l_odd05 : PSp := fun xs _ post => xs = [.deck] ∧ ∀ x : PV, R5 x → post x
section
variable {K : PySem.W.Frag} [Tbs K]
theorem plain_l_odd05 (xs : List PV) (perr : PErr → Prop) (post : PV → Prop) (h : psp_l_odd05 xs perr post) : (X_l_odd K).wp (fun _ _ => False) { nx := fun _ => post .non, rt := post } (startE 2 xs) := by
  obtain ⟨rfl, h⟩ := h
  have hz := sizeLine_eq
  unfold X_l_odd
  walk_at "wq"
  have hp : psp_l_pick [.deck, .lst oddL] (fun _ => False) post := ⟨oddL, rfl, by unfold oddL; simp, by unfold oddL; simp only [List.length_cons, List.length_nil]; omega, fun y hy => h y (odd_r5 hy)⟩
  refine ⟨by unfold CPow; decide, by omega, by omega, by omega, by decide, rfl, by omega, by omega, by omega, by omega, by omega, by omega, by omega, by decide, rfl, by omega, by omega, by omega, by omega, by omega, by omega, by omega, by omega, ?_, hp⟩
  simp only [List.length_append, List.length_cons, List.length_nil]; omega
theorem len_l_odd05 (vs : List V) (H : Hp) (Q : VK) (E : XK) (h : spOf K psp_l_odd05 vs H Q E) : vs.length = 1 := spOf_len (fun _ _ _ h => by obtain ⟨rfl, _⟩ := h; rfl) vs H Q E h
theorem pure_l_odd05 (vs : List V) (H : Hp) (Q : VK) (E : XK) (h : spOf K psp_l_odd05 vs H Q E) : (X_l_odd K).rd (fun _ => E0) { nx := fun _ H' => Q .non H', rt := Q } (startN 2 vs) H := SS.run0 _ plain_l_odd05 vs H Q E h
theorem thereP_perm {zs ms : List Str} (h : zs.Perm ms) (x : PV) : thereP zs x = thereP ms x := by
  cases x with
  | str z => simp only [thereP, h.mem_iff]
  | _ => rfl
theorem first_of (ts : List Str) (l : List PV) : cutP (l.filterMap fun x => if thereP ts x = true then none else some x) none (some 1) = (match missP l ts with | some x => [x] | none => []) := by
  rw [cutP_to (by decide)]
  induction l with
  | nil => rfl
  | cons a l ih =>
    unfold missP at ih ⊢
    rw [List.filterMap_cons, List.find?_cons]
    cases ha : thereP ts a with
    | true => simpa using ih
    | false => simp
theorem miss_mem {ts : List Str} {l : List PV} {x : PV} (h : missP l ts = some x) : x ∈ l := List.mem_of_find?_eq_some h
theorem missP_perm {zs ms : List Str} (h : zs.Perm ms) (l : List PV) : missP l zs = missP l ms := by
  unfold missP
  congr 1; funext x; rw [thereP_perm h]
section
variable {T C : Addr} {ts : List Str} {f : Fo} {a b : PV} {N1 N2 : Env → Prop} {Q : PV → Prop}
end
theorem seen_val (x : PV) : seen (.val x) = .val x := rfl
end
end Tw
set_option Elab.async false
set_option linter.all false
set_option maxRecDepth 100000
set_option maxHeartbeats 4000000
/-! comprehensions with two fors; sorted of rows of texts -/
namespace Tw
open PySem PySem.Spec PyProof.Rows L2
theorem it_gen {J : It} {n : Nat} {G : Hp → Prop} {Y : Nat → Hp → V → Hp → Prop} (w : Walk J n G Y) {T : V → Hp → (Hp → Prop) → Prop} {Qd : Hp → Prop} {H1 : Hp} (Pv : Nat → Hp → Prop) (h0 : Pv 0 H1) (hG : ∀ i H, i ≤ n → Pv i H → G H)
    (hs : ∀ i x H H', i < n → Pv i H → Y i H x H' → T x H' (Pv (i + 1))) (hd : ∀ H, Pv n H → Qd H) :
    ∃ W : Nat → Nat → Hp → Prop, (∃ m, W 0 m H1) ∧ ∀ i m H, W i m H → (J.stop i H ∧ Qd H) ∨ (J.go i H ∧ ∃ Nx : Hp → Prop, (∀ H', Nx H' → ∃ m', m' < m ∧ W (i + 1) m' H') ∧ ∀ x H', J.yld i H x H' → T x H' Nx) := by
  refine ⟨fun i m H => m = n - i ∧ i ≤ n ∧ Pv i H, ⟨n, by simp, Nat.zero_le _, h0⟩, ?_⟩
  rintro i m H ⟨rfl, hi, p⟩
  have q := hG i H hi p
  rcases Nat.lt_or_ge i n with hlt | hge
  · exact .inr ⟨w.goes i H hlt q, Pv (i + 1), fun H' p' => ⟨n - (i + 1), by omega, rfl, hlt, p'⟩, fun x H' y => hs i x H H' hlt p (w.yields i H x H' hlt q y)⟩
  · obtain rfl : i = n := Nat.le_antisymm hi hge
    exact .inl ⟨w.stops H q, hd H p⟩
def wpLc2 (outer : PV → List PV → Env → (List PV → Env → Prop) → Prop) : List PV → List PV → Env → (List PV → Env → Prop) → Prop
  | [], acc, ρ, P => P acc ρ
  | x :: xs, acc, ρ, P => outer x acc ρ fun acc' ρ' => wpLc2 outer xs acc' ρ' P
def lcOuter {K : PySem.W.Frag} [Tbs K] (g : SG K) (tt : ST K) (wi1 : SI K) (g1 : SG K) (tt1 : ST K) (te : SE K) (PE : PEK) (x : PV) (acc : List PV) (ρ : Env) (k : List PV → Env → Prop) : Prop :=
  g.wp x ρ fun ρ1 => tt.wp PE ρ1 fun b ρ2 => if b = true then wi1.wp PE ρ2 fun ys ρ3 => wpLc (lcStep g1 tt1 te PE) ys acc (wipeE ρ3 g1.sl) fun acc' ρ4 => k acc' (wipeE ρ4 (g.sl ++ g1.sl)) else k acc (wipeE ρ2 (g.sl ++ g1.sl))
theorem dropAt2 {α : Type} {xs : List α} {i : Nat} {x : α} (h : xs[i]? = some x) : xs.drop i = x :: xs.drop (i + 1) := by
  obtain ⟨hi, e⟩ := List.getElem?_eq_some_iff.mp h
  rw [List.drop_eq_getElem_cons hi, e]
namespace SN
variable {K : PySem.W.Frag} [Tbs K]
def lc2 (wi : SI K) (g : SG K) (tt : ST K) (wi1 : SI K) (g1 : SG K) (tt1 : ST K) (te : SE K) : SN K where
  rd := fun E => tLc2 (wi.rd E) g.rd (tt.rd E) (wi1.rd E) g1.rd (tt1.rd E) (te.rd E) (g.sl ++ g1.sl) g1.sl
  wp := fun PE ρ P => wi.wp PE ρ fun xs ρ1 => wpLc2 (lcOuter g tt wi1 g1 tt1 te PE) xs [] (wipeE ρ1 (g.sl ++ g1.sl)) P
  ok := by
    intro dk F0 H0 F σ H ρ E PE P Q I e h q
    generalize hvs : g.sl ++ g1.sl = vs at h
    have hv0 : ∀ j, j ∈ g.sl → j ∈ vs := fun j hj => by rw [← hvs]; exact List.mem_append_left _ hj
    have hv1 : ∀ j, j ∈ g1.sl → j ∈ vs := fun j hj => by rw [← hvs]; exact List.mem_append_right _ hj
    refine wi.ok I e h fun J H1 F1 xs ρ1 gr1 I1 wk h1 => ?_
    intro D hD
    obtain ⟨G, Y, wk, wG, wY⟩ := wk
    obtain ⟨I2, g2, e2, r2, a1, a2, a3, a4⟩ := I1.laid hD (RepL.nil)
    have hd0 : H0 D = none := a1
    have hf0 : ¬ F0 D := fun z => a2 (I1.st.f0 _ z)
    have owipe : ∀ {i : Nat} {ρ' : Env} {vs' : List Nat} {a : Addr}, OwnAt (wipe σ vs') (wipeE ρ' vs') i a → OwnAt σ ρ' i a := fun {i ρ' vs' a} h => by
      obtain ⟨s, hs, hw, ee⟩ := h
      rw [wipe_get] at ee
      rw [wipeE_get] at hs
      by_cases hi : i ∈ vs'
      · rw [if_pos hi] at hs
        split at hs
        · cases hs; cases hw
        · cases hs
      · rw [if_neg hi] at ee hs
        exact ⟨s, hs, hw, ee⟩
    refine it_gen wk (fun i H' => ∃ F' ρ' accv acc, Grow K F1 H1 F' H' ∧ PInv K dk F0 (upd H0 D (.lst accv)) F' (wipe σ vs) H' ρ' ∧ RepL K dk F' H' accv acc ∧ (∀ j, j ∈ vs → ∀ s, ρ'[j]? = some s → s = .no) ∧ wpLc2 (lcOuter g tt wi1 g1 tt1 te PE) (xs.drop i) acc ρ' P) ?_ ?_ ?_ ?_
    · refine ⟨F1, wipeE ρ1 vs, [], [], g2, ?_, .nil, fun j hj s hs => wipeE_no hj hs, h1⟩
      exact (I2.wiped vs).rebase a1 a3 e2 a2 fun i h => a4 i (owipe h)
    · rintro i H' _ ⟨F', ρ', _, _, g', _⟩
      exact wG F' H' g'
    · rintro i v H' H'' hi ⟨F', ρ', accv, acc, g', I', r', hn, h'⟩ hy
      obtain ⟨hh, x, hx, r⟩ := wY i F' H' v H'' hi g' hy
      obtain ⟨I2, g2⟩ := I'.turn hh
      rw [dropAt2 hx] at h'
      have g12 := (gr1.trans g').trans g2
      refine g.ok I2 r h' fun σ3 ρ3 hl3 hs3 I3 h3 => ?_
      have hw3 : wipe σ3 vs = wipe σ vs := (wipe_same hl3 fun j hj => hs3 j fun z => hj (hv0 j z)).trans wipe_wipe
      refine ⟨hw3, ?_⟩
      have eD : ∀ {Fx Hx} (accv : List V), Grow K F H Fx Hx → ErrS K dk F0 (upd H0 D (.lst accv)) Fx Hx E PE := fun accv gx => (e.grow gx).rebase (o := .lst accv) hd0 a3
      refine tt.ok I3 (eD _ g12) h3 fun b H4 F4 ρ4 g4 I4 h4 => ?_
      cases b with
      | true =>
        simp only [if_true] at h4 ⊢
        refine wi1.ok I4 (eD _ (g12.trans g4)) h4 fun J1 H5 F5 ys ρ5 g5 I5 wk1 h5 => ?_
        obtain ⟨G1, Y1, wk1, wG1, wY1⟩ := wk1
        have gA := (g2.trans g4).trans g5
        have gB := (g12.trans g4).trans g5
        refine it_gen wk1 (fun j H' => ∃ F' ρ' accv acc, Grow K F5 H5 F' H' ∧ PInv K dk F0 (upd H0 D (.lst accv)) F' (wipe σ3 g1.sl) H' ρ' ∧ RepL K dk F' H' accv acc ∧ wpLc (lcStep g1 tt1 te PE) (ys.drop j) acc ρ' (fun acc' ρ4 => wpLc2 (lcOuter g tt wi1 g1 tt1 te PE) (xs.drop (i + 1)) acc' (wipeE ρ4 vs) P)) ?_ ?_ ?_ ?_
        · exact ⟨F5, wipeE ρ5 g1.sl, accv, acc, Grow.refl, I5.wiped g1.sl, r'.mono gA, by rw [← hvs]; exact h5⟩
        · rintro j H' _ ⟨F', ρ', _, _, g', _⟩
          exact wG1 F' H' g'
        · rintro j v6 H6 H7 hj ⟨F6, ρ6, accv6, acc6, g6, I6, r6, h6⟩ hy6
          obtain ⟨hh6, x6, hx6, rx6⟩ := wY1 j F6 H6 v6 H7 hj g6 hy6
          obtain ⟨I7, g7⟩ := I6.turn hh6
          rw [dropAt2 hx6] at h6
          have gC := (gB.trans g6).trans g7
          refine g1.ok I7 rx6 h6 fun σ8 ρ8 hl8 hs8 I8 h8 => ?_
          have hw8 : wipe σ8 g1.sl = wipe σ3 g1.sl := (wipe_same hl8 hs8).trans wipe_wipe
          refine ⟨hw8, ?_⟩
          refine tt1.ok I8 (eD _ gC) h8 fun b H9 F9 ρ9 g9 I9 h9 => ?_
          cases b with
          | true =>
            simp only [if_true] at h9 ⊢
            refine te.ok I9 (eD _ (gC.trans g9)) h9 fun w H10 F10 y ρ10 g10 I10 r10 h10 => ?_
            have gE := (g7.trans g9).trans g10
            have hD10 : H10 D = some (.lst accv6) := I10.st.base D _ upd_same a3
            have ra := r6.mono gE
            obtain ⟨I11, g11⟩ := I10.chgD (ys := accv6 ++ [w]) hd0 hf0 a3
            refine ⟨accv6, hD10, by rw [ra.len]; exact h10.1, F10, wipeE ρ10 g1.sl, accv6 ++ [w], acc6 ++ [y], (g6.trans gE).trans g11, ?_, (ra.app (.one r10)).mono g11, h10.2⟩
            have := I11.wiped g1.sl
            rw [hw8] at this
            exact this
          | false =>
            simp only [Bool.false_eq_true, if_false] at h9 ⊢
            have gE := g7.trans g9
            have := I9.wiped g1.sl
            rw [hw8] at this
            exact ⟨F9, wipeE ρ9 g1.sl, accv6, acc6, g6.trans gE, this, r6.mono gE, h9⟩
        · rintro H' ⟨F6, ρ6, accv6, acc6, g6, I6, r6, h6⟩
          rw [List.drop_length] at h6
          have := I6.wiped vs
          have ew : wipe (wipe σ3 g1.sl) vs = wipe σ vs := by
            rw [← hw3]
            exact wipe_same (wipe_length _ _) fun j hj => by rw [wipe_get, if_neg fun z => hj (hv1 j z)]
          rw [ew] at this
          exact ⟨F6, wipeE ρ6 vs, accv6, acc6, (g'.trans gA).trans g6, this, r6, fun j hj s hs => wipeE_no hj hs, h6⟩
      | false =>
        simp only [Bool.false_eq_true, if_false] at h4 ⊢
        have gA := g2.trans g4
        have := I4.wiped vs
        rw [hw3] at this
        refine ⟨F4, wipeE ρ4 vs, accv, acc, g'.trans gA, this, r'.mono gA, fun j hj s hs => wipeE_no hj hs, ?_⟩
        rw [← hvs]; exact h4
    · rintro H' ⟨F', ρ', accv, acc, g', I', r', hn, h'⟩
      rw [List.drop_length] at h'
      have hD5 : H' D = some (.lst accv) := I'.st.base D _ upd_same a3
      obtain ⟨f1, f2⟩ := I'.offD hd0 hf0
      have I2 := (I'.unbase hd0 a3).unwiped (σ := σ) (vs := vs) (wipe_length _ _) (fun j hj => by rw [wipe_get, if_neg hj]) hn
      refine q D accv H' F' acc ρ' (gr1.trans g') I2 hD5 r' hd0 f1 a3 (fun i h => ?_) h'
      obtain ⟨s, hs, hw, ee⟩ := h
      refine f2 i ⟨s, hs, hw, ?_⟩
      rw [wipe_get]
      by_cases hi : i ∈ vs
      · rw [hn i hi s hs] at hw; cases hw
      · rw [if_neg hi]; exact ee
end SN
theorem w_SN_lc2 {K : PySem.W.Frag} [Tbs K] {wi wi1 : SI K} {g g1 : SG K} {tt tt1 : ST K} {te : SE K} {PE : PEK} {ρ : Env} {P : List PV → Env → Prop} : (SN.lc2 wi g tt wi1 g1 tt1 te : SN K).wp PE ρ P = (wi.wp PE ρ fun xs ρ1 => wpLc2 (lcOuter g tt wi1 g1 tt1 te PE) xs [] (wipeE ρ1 (g.sl ++ g1.sl)) P) := rfl
end Tw
set_option Elab.async false
set_option linter.all false
set_option maxRecDepth 100000
set_option maxHeartbeats 4000000
/-! sorted of rows: tuples of texts, all of one length -/
namespace Tw
open PySem PySem.Spec PyProof.Rows L2 TL
def encZ (zs : List Str) : PyData := .tuple (zs.map .str)
/-- the order of rows -/
def leZ : List Str → List Str → Bool := PySem.W.dataLe false encZ
section
variable {prog : Program} {w : World} {A : Around} {s : Shared}
end
def rSortedZ (K : PySem.W.Frag) [Tbs K] : List V → Hp → VK → Prop := fun vs H Q => ∃ (a : Addr) (tps : List (Addr × List Str)) (n : Nat), vs = [V.ref a] ∧ SqL K H a (tps.map fun tp => V.ref tp.1) ∧ (∀ tp ∈ tps, SqT K H tp.1 (tp.2.map V.str) ∧ tp.2.length = n) ∧ (n = 0 → tps.length = 1) ∧
  ∀ (p : Addr), H p = none → Q (.ref p) (upd H p (.lst ((tps.mergeSort fun a b => leZ a.2 b.2).map fun tp => V.ref tp.1)))
/-- a row, laid frozen or not -/
def rowV : Bool → List Str → PV
  | true, zs => .frt (zs.map .str)
  | false, zs => .tup (zs.map .str)
section
variable {K : PySem.W.Frag} [Tbs K] {dk : Option Addr} {F : Addr → Prop} {H : Hp}
theorem repL_strs : ∀ {vs : List V} {zs : List Str}, RepL K dk F H vs (zs.map .str) → vs = zs.map V.str
  | _, [], .nil => rfl
  | _, z :: zs, .cons r t => by cases r; rw [repL_strs t]; rfl
theorem rowV_rep {fz : Bool} {v : V} {zs : List Str} (r : Rep K dk F H v (rowV fz zs)) : ∃ t : Addr, v = .ref t ∧ SqT K H t (zs.map V.str) := by
  cases fz with
  | false =>
    cases r with
    | tup s l => rw [repL_strs l] at s; exact ⟨_, rfl, s⟩
  | true =>
    cases r with
    | frt s _ l => rw [repL_strs l] at s; exact ⟨_, rfl, s⟩
theorem rows_rep {fz : Bool} : ∀ {vs : List V} {zss : List (List Str)}, RepL K dk F H vs (zss.map (rowV fz)) → ∃ tps : List (Addr × List Str), vs = tps.map (fun tp => V.ref tp.1) ∧ zss = tps.map (·.2) ∧ ∀ tp ∈ tps, SqT K H tp.1 (tp.2.map V.str) ∧ Rep K dk F H (.ref tp.1) (rowV fz tp.2)
  | _, [], .nil => ⟨[], rfl, rfl, fun tp h => (by cases h)⟩
  | _, zs :: zss, .cons r l => by
    obtain ⟨tps, e1, e2, e3⟩ := rows_rep l
    obtain ⟨t, rfl, st⟩ := rowV_rep r
    refine ⟨(t, zs) :: tps, by rw [e1]; rfl, by rw [e2]; rfl, fun tp h => ?_⟩
    rcases List.mem_cons.mp h with rfl | h
    · exact ⟨st, r⟩
    · exact e3 tp h
theorem rep_rows {fz : Bool} : ∀ {tps : List (Addr × List Str)}, (∀ tp ∈ tps, Rep K dk F H (.ref tp.1) (rowV fz tp.2)) → RepL K dk F H (tps.map fun tp => V.ref tp.1) ((tps.map (·.2)).map (rowV fz))
  | [], _ => .nil
  | tp :: tps, h => .cons (h tp (List.mem_cons_self ..)) (rep_rows fun x hx => h x (List.mem_cons_of_mem _ hx))
end
namespace SN
variable {K : PySem.W.Frag} [Tbs K]
def sortedZ (a : SE K) : SN K where
  rd := fun E => tCB (rSortedZ K) (tCons (a.rd E) tNil)
  wp := fun PE ρ P => a.wp PE ρ fun x ρ1 => ∃ (fz : Bool) (zss : List (List Str)) (n : Nat), x = .lst (zss.map (rowV fz)) ∧ (∀ z ∈ zss, z.length = n) ∧ (n = 0 → zss.length = 1) ∧ P ((zss.mergeSort leZ).map (rowV fz)) ρ1
  ok := by
    intro dk F0 H0 F σ H ρ E PE P Q I e h q
    refine a.ok I e h fun v H1 F1 x ρ1 g1 I1 r1 h1 => ?_
    obtain ⟨fz, zss, n, rfl, hn, h0, h1⟩ := h1
    cases r1 with
    | lst f s r =>
      obtain ⟨tps, e1, e2, e3⟩ := rows_rep r
      subst e1 e2
      refine ⟨_, tps, n, rfl, SqL.of s, fun tp ht => ⟨(e3 tp ht).1, hn _ (List.mem_map.mpr ⟨tp, ht, rfl⟩)⟩, fun z => by have := h0 z; rwa [List.length_map] at this, fun p hp => ?_⟩
      have hpm := List.mergeSort_perm tps fun a b => leZ a.2 b.2
      obtain ⟨I4, g4, e4, r4, a1, a2, a3, a4⟩ := I1.laid hp (rep_rows (fz := fz) (tps := tps.mergeSort fun a b => leZ a.2 b.2) fun tp ht => (e3 tp (hpm.mem_iff.mp ht)).2)
      refine q _ _ _ _ _ _ (g1.trans g4) I4 e4 r4 a1 a2 a3 a4 ?_
      rw [PySem.W.sort_maps (s := leZ) (fun tp : Addr × List Str => tp.2) fun a _ b _ => rfl]
      exact h1
end SN
theorem w_SN_sortedZ {K : PySem.W.Frag} [Tbs K] {a : SE K} {PE : PEK} {ρ : Env} {P : List PV → Env → Prop} : (SN.sortedZ a : SN K).wp PE ρ P = (a.wp PE ρ fun x ρ1 => ∃ (fz : Bool) (zss : List (List Str)) (n : Nat), x = .lst (zss.map (rowV fz)) ∧ (∀ z ∈ zss, z.length = n) ∧ (n = 0 → zss.length = 1) ∧ P ((zss.mergeSort leZ).map (rowV fz)) ρ1) := rfl
/-! ### the order is total, and what is alike is the same -/
end Tw
set_option Elab.async false
set_option linter.all false
set_option maxRecDepth 100000
set_option maxHeartbeats 4000000
/-! all rows of some names: a name laid around each stretch -/
namespace Tw
open PySem PySem.Spec PyProof.Rows L2 TL
def sg (es : List En) : List Bool := es.map (·.1)
/-! ### how many there are -/
end Tw
set_option Elab.async false
set_option linter.all false
set_option maxRecDepth 100000
set_option maxHeartbeats 4000000
/-! the stretches of a row that begin at a place: whole nodes side by side -/
namespace Tw
open PySem PySem.Spec PyProof.Rows L2 TL
def flatB (bs : List (Str × List En)) : List En := bs.flatMap fun b => blkE b.1 b.2
theorem flatB_cons (b : Str × List En) (bs : List (Str × List En)) : flatB (b :: bs) = blkE b.1 b.2 ++ flatB bs := List.flatMap_cons
theorem close1 : ∀ (k : Nat) (t : List En) (n : Str) (st : List Str), t.length ≤ k → opn1 (n :: st) t = some [] → ∃ m t', t = m ++ (false, n) :: t' ∧ Bl m ∧ opn1 st t' = some []
  | k, [], n, st, _, h => by cases h
  | 0, _ :: _, n, st, hl, h => absurd hl (by simp)
  | k + 1, (false, j) :: t, n, st, hl, h => by
    have h' : (if n = j then opn1 st t else none) = some [] := h
    by_cases e : n = j
    · rw [if_pos e] at h'
      exact ⟨[], t, by rw [e]; rfl, rfl, h'⟩
    · rw [if_neg e] at h'; cases h'
  | k + 1, (true, j) :: t, n, st, hl, h => by
    have hl' : t.length ≤ k := by simpa using hl
    obtain ⟨m1, t1, e1, b1, h1⟩ := close1 k t j (n :: st) hl' h
    have hl1 : t1.length ≤ k := by rw [e1] at hl'; simp at hl'; omega
    obtain ⟨m2, t2, e2, b2, h2⟩ := close1 k t1 n st hl1 h1
    exact ⟨blkE j m1 ++ m2, t2, by rw [e1, e2]; simp [blkE], (bl_blk b1).app b2, h2⟩
/-- from any place of a row: whole nodes, then the end of what lies around -/
theorem blocks : ∀ (k : Nat) (l : List En) (st : List Str), l.length ≤ k → opn1 st l = some [] → ∃ (bs : List (Str × List En)) (rest : List En), l = flatB bs ++ rest ∧ (rest = [] ∨ ∃ n r, rest = (false, n) :: r) ∧ ∀ b ∈ bs, Bl b.2
  | k, [], st, _, _ => ⟨[], [], rfl, .inl rfl, fun b q => (by cases q)⟩
  | k, (false, n) :: r, st, _, _ => ⟨[], _, rfl, .inr ⟨n, r, rfl⟩, fun b q => (by cases q)⟩
  | 0, (true, n) :: r, st, hl, _ => absurd hl (by simp)
  | k + 1, (true, n) :: t, st, hl, h => by
    have hl' : t.length ≤ k := by simpa using hl
    obtain ⟨m, t', e, bm, h'⟩ := close1 k t n st hl' h
    have hl1 : t'.length ≤ k := by rw [e] at hl'; simp at hl'; omega
    obtain ⟨bs, rest, e2, hr, hb⟩ := blocks k t' st hl1 h'
    refine ⟨(n, m) :: bs, rest, by rw [e, e2, flatB_cons]; simp [blkE], hr, fun b q => ?_⟩
    rcases List.mem_cons.mp q with rfl | q
    · exact bm
    · exact hb b q
end Tw
set_option Elab.async false
set_option linter.all false
set_option maxRecDepth 100000
set_option maxHeartbeats 4000000
/-! skeleton_rows and skeletons of the program -/
namespace Tw
open PySem PySem.Spec PyProof.Rows L2 TL
local macro_rules | `(tactic| walk_at "wp") => `(tactic| try simp (config := { maxSteps := 1000000 }) only [↓w_SE_var, ↓w_SE_non, ↓w_SE_bl, ↓w_SE_int, ↓w_SE_str, ↓w_SE_op, ↓w_SE_un, ↓w_SE_cb, ↓w_SE_tup, ↓w_SE_lst, ↓w_SE_ifE, ↓w_SE_isN, ↓w_SE_notN, ↓w_SA_nil, ↓w_SA_cons, ↓w_ST_not, ↓w_ST_and, ↓w_ST_or, ↓w_ST_yes, ↓w_ST_tru, ↓w_SG_name, ↓w_SS_next, ↓w_SS_brk, ↓w_SS_cont, ↓w_SS_never, ↓w_SS_seq, ↓w_SS_cut, ↓w_SS_asg, ↓w_SS_drop, ↓w_SS_ret, ↓w_SS_retN, ↓w_SS_ifS, ↓w_SS_for_, ↓w_SS_while_, ↓w_SN_lst, ↓w_SE_nl, ↓w_SS_own, ↓w_SN_lc, ↓w_SE_call, ↓w_SE_callS, ↓w_SE_pop, ↓w_SP__no, ↓w_SS_raise0, ↓w_SS_raise1, ↓w_SS_raise2, ↓w_SS_tryO, ↓w_SS_tryA, ↓w_SS_tryM, ↓w_SE_xf, ↓w_SE_isE, ↓w_SE_popAt, ↓w_SN_slO, ↓w_SN_sortedS, ↓w_SN_sortedI, ↓w_SS_asg2, ↓w_SS_par, ↓w_SE_joined, ↓w_SE_join, ↓w_SE_txtB, ↓w_SE_lenSetT, ↓w_SE_chain, ↓w_SO_inSign, ↓w_SO_eqE, ↓w_SB_all_, ↓w_SB_repr, ↓c_i0, ↓c_c0, ↓c_iC, ↓c_addS, ↓c_repS, ↓c_catT, ↓c_ixS, ↓c_ixT, ↓c_ixL, ↓c_eq_ii, ↓c_eq_ss, ↓c_eq_ns, ↓c_eq_sn, ↓c_eq_bb, ↓c_eq_nn, ↓c_eq_ni, ↓c_eq_in, ↓c_ne_ii, ↓c_ne_ss, ↓c_ne_bb, ↓c_ne_ns, ↓c_ne_sn, ↓c_ne_nn, ↓c_ne_ni, ↓c_ne_in, ↓c_inST, ↓c_inSL, ↓c_lenS, ↓c_lenQt, ↓c_lenQl, ↓c_abs, ↓c_int1i, ↓c_int1b, ↓c_tupl, ↓c_tupt, ↓c_max2, ↓c_min2, ↓c_neg, ↓c_tst, ↓c_asI, ↓c_asS, ↓c_asT, ↓c_asL, ↓c_asQl, ↓c_asQt, ↓o_tt, ↓o_ts, ↓o_tl, ↓o_ti, ↓o_st, ↓o_ss, ↓o_sl_, ↓o_si, ↓o_lt, ↓o_ls, ↓o_ll, ↓o_li, ↓o_it, ↓o_is, ↓o_il, ↓o_ii, ↓o_bt, ↓o_bs, ↓o_bl_, ↓o_bi, ↓o_nt, ↓o_ns, ↓o_nl, ↓o_ni, ↓o_dt, ↓o_ds, ↓o_dl, ↓o_di, ↓v_test, ↓v_b, ↓v_andV, ↓v_orV, ↓v_notV, ↓v_isi, ↓v_at, ↓v_slS, ↓v_slT, ↓v_slL, ↓v_listOf, ↓v_revL, ↓v_revT, ↓v_cat, ↓v_rep, ↓v_ilist, ↓v_itup, ↓v_istr, ↓v_enumL, ↓v_enumT, ↓v_rng1, ↓v_rng2, ↓c_rng1, ↓c_rng2, ↓v_zipA, ↓c_zipt, ↓c_zipl, ↓v_gtup, ↓c_unp, ↓v_gunl, ↓c_unpL, ↓v_fmt, ↓c_fmts, ↓c_fmti, ↓v_js, ↓v_lenO, ↓v_tupO, ↓v_listO, ↓v_truO, ↓v_eqEO, ↓v_append, ↓v_ixO, ↓v_extendT, ↓v_extendL, ↓v_insert, ↓v_setL, ↓v_inO, ↓v_v0, ↓v_v0o, ↓v_v0d, ↓v_vs, ↓v_o0, ↓v_os, ↓v_d0, ↓v_ds, tr_non, tr_bl, tr_int, tr_str, tr_tup, tr_lst, tr_dic, in_non, in_bl, in_int, in_str, in_tup, in_lst, in_dic, we_nil, we_cons, sl_name, sl_tup, sl_unl, sa_nil, sa_cons, pr_val, pr_own, st_app, st_nil, js_nil, ↓w_for0, ↓w_for1, List.getElem?_cons_zero, List.getElem?_cons_succ, List.set_cons_zero, List.set_cons_succ, List.length_cons, List.length_nil, List.replicate_succ, List.replicate_zero, if_true, Bool.not_true, Bool.not_false, Bool.false_eq_true, if_false, ite_true, ite_false, decide_true, decide_false, Nat.reduceSub, Nat.reduceAdd, Nat.zero_add, true_and, and_true, ↓w_SE_tupF, ↓w_SE_slF, ↓w_SE_tupleF, ↓w_SE_idxF, ↓c_catF, ↓c_inF, ↓c_ixF, ↓c_lenF, ↓w_SI_frt, ↓c_asF, ↓w_SE_nl, ↓w_SE_dget, ↓w_SE_idxL, ↓c_isntB, ↓w_SB_any_, ↓w_SE_din, ↓c_isAny, ↓w_SN_lc2, ↓w_SN_sortedZ])
local macro_rules | `(tactic| walk_at "wq") => `(tactic| try simp (config := { maxSteps := 1000000 }) only [↓w_SE_var, ↓w_SE_non, ↓w_SE_bl, ↓w_SE_int, ↓w_SE_str, ↓w_SE_op, ↓w_SE_un, ↓w_SE_cb, ↓w_SE_tup, ↓w_SE_lst, ↓w_SE_ifE, ↓w_SE_isN, ↓w_SE_notN, ↓w_SA_nil, ↓w_SA_cons, ↓w_ST_not, ↓w_ST_and, ↓w_ST_or, ↓w_ST_yes, ↓w_ST_tru, ↓w_SG_name, ↓w_SS_next, ↓w_SS_brk, ↓w_SS_cont, ↓w_SS_never, ↓w_SS_seq, ↓w_SS_cut, ↓w_SS_asg, ↓w_SS_drop, ↓w_SS_ret, ↓w_SS_retN, ↓w_SS_ifS, ↓w_SS_for_, ↓w_SS_while_, ↓w_SN_lst, ↓w_SE_nl, ↓w_SS_own, ↓w_SN_lc, ↓w_SE_call, ↓w_SE_callS, ↓w_SE_pop, ↓w_SP__no, ↓w_SS_raise0, ↓w_SS_raise1, ↓w_SS_raise2, ↓w_SS_tryO, ↓w_SS_tryA, ↓w_SS_tryM, ↓w_SE_xf, ↓w_SE_isE, ↓w_SE_popAt, ↓w_SN_slO, ↓w_SN_sortedS, ↓w_SN_sortedI, ↓w_SS_asg2, ↓w_SS_par, ↓w_SE_joined, ↓w_SE_join, ↓w_SE_txtB, ↓w_SE_lenSetT, ↓w_SE_chain, ↓w_SO_inSign, ↓w_SO_eqE, ↓w_SB_all_, ↓w_SB_repr, ↓c_i0, ↓c_c0, ↓c_iC, ↓c_addS, ↓c_repS, ↓c_catT, ↓c_ixS, ↓c_ixT, ↓c_ixL, ↓c_eq_ii, ↓c_eq_ss, ↓c_eq_ns, ↓c_eq_sn, ↓c_eq_bb, ↓c_eq_nn, ↓c_eq_ni, ↓c_eq_in, ↓c_ne_ii, ↓c_ne_ss, ↓c_ne_bb, ↓c_ne_ns, ↓c_ne_sn, ↓c_ne_nn, ↓c_ne_ni, ↓c_ne_in, ↓c_inST, ↓c_inSL, ↓c_lenS, ↓c_lenQt, ↓c_lenQl, ↓c_abs, ↓c_int1i, ↓c_int1b, ↓c_tupl, ↓c_tupt, ↓c_max2, ↓c_min2, ↓c_neg, ↓c_tst, ↓c_asI, ↓c_asS, ↓c_asT, ↓c_asL, ↓c_asQl, ↓c_asQt, ↓o_tt, ↓o_ts, ↓o_tl, ↓o_ti, ↓o_st, ↓o_ss, ↓o_sl_, ↓o_si, ↓o_lt, ↓o_ls, ↓o_ll, ↓o_li, ↓o_it, ↓o_is, ↓o_il, ↓o_ii, ↓o_bt, ↓o_bs, ↓o_bl_, ↓o_bi, ↓o_nt, ↓o_ns, ↓o_nl, ↓o_ni, ↓o_dt, ↓o_ds, ↓o_dl, ↓o_di, ↓v_test, ↓v_b, ↓v_andV, ↓v_orV, ↓v_notV, ↓v_isi, ↓v_at, ↓v_slS, ↓v_slT, ↓v_slL, ↓v_listOf, ↓v_revL, ↓v_revT, ↓v_cat, ↓v_rep, ↓v_ilist, ↓v_itup, ↓v_istr, ↓v_enumL, ↓v_enumT, ↓v_rng1, ↓v_rng2, ↓c_rng1, ↓c_rng2, ↓v_zipA, ↓c_zipt, ↓c_zipl, ↓v_gtup, ↓c_unp, ↓v_gunl, ↓c_unpL, ↓v_fmt, ↓c_fmts, ↓c_fmti, ↓v_js, ↓v_lenO, ↓v_tupO, ↓v_listO, ↓v_truO, ↓v_eqEO, ↓v_append, ↓v_ixO, ↓v_extendT, ↓v_extendL, ↓v_insert, ↓v_setL, ↓v_inO, ↓v_v0, ↓v_v0o, ↓v_v0d, ↓v_vs, ↓v_o0, ↓v_os, ↓v_d0, ↓v_ds, tr_non, tr_bl, tr_int, tr_str, tr_tup, tr_lst, tr_dic, in_non, in_bl, in_int, in_str, in_tup, in_lst, in_dic, we_nil, we_cons, sl_name, sl_tup, sl_unl, sa_nil, sa_cons, pr_val, pr_own, st_app, st_nil, js_nil, List.getElem?_cons_zero, List.getElem?_cons_succ, List.set_cons_zero, List.set_cons_succ, List.length_cons, List.length_nil, List.replicate_succ, List.replicate_zero, if_true, Bool.not_true, Bool.not_false, Bool.false_eq_true, if_false, ite_true, ite_false, decide_true, decide_false, Nat.reduceSub, Nat.reduceAdd, Nat.zero_add, true_and, and_true, ↓w_SE_tupF, ↓w_SE_slF, ↓w_SE_tupleF, ↓w_SE_idxF, ↓c_catF, ↓c_inF, ↓c_ixF, ↓c_lenF, ↓w_SI_frt, ↓c_asF, ↓w_SE_nl, ↓w_SE_dget, ↓w_SE_idxL, ↓c_isntB, ↓w_SB_any_, ↓w_SE_din, ↓c_isAny, ↓w_SN_lc2, ↓w_SN_sortedZ])
/-- the names in a value, if it is a tuple of names -/
def strsP : List PV → Option (List Str)
  | [] => some []
  | .str z :: l => (strsP l).map (z :: ·)
  | _ :: l => none
def unlB : PV → Bool
  | .tup l => match strsP l with
    | some zs => decide (zs.Nodup) && zs.all nameB
    | none => false
  | _ => false
def psp_is_nameA : PSp := fun xs _ post => ∃ x : PV, xs = [x] ∧ x.vok = true ∧ post (.bl (nmW x.wv))
def psp_are_unlikeA : PSp := fun xs _ post => ∃ x : PV, xs = [x] ∧ x.vok = true ∧ (∀ l, x = .tup l → l.length ≤ 1000) ∧ post (.bl (unlB x))
section
variable (K : PySem.W.Frag) [Tbs K]
theorem hs_is_nameA : SpOk K (sp_is_name K) psp_is_nameA := by
  rintro dk F H vs xs perr post Q E s r ⟨x, rfl, hv, h3⟩ q _
  have hz := sizeLine_eq
  cases r with
  | cons a b =>
    cases b
    rcases (rep_atw a hv).noStr with ⟨z, rfl, e, hl⟩ | ⟨hn, hne⟩
    · refine ⟨_, rfl, .inl ⟨z, rfl, by omega, q _ H F _ s (.bl _) ?_⟩⟩
      rw [e] at h3; exact h3
    · refine ⟨_, rfl, .inr ⟨hn, q _ H F _ s (.bl _) ?_⟩⟩
      have : nmW x.wv = false := by
        generalize x.wv = y at hne ⊢
        cases y with
        | txt z => exact absurd rfl (hne z)
        | _ => rfl
      rw [this] at h3; exact h3
end
namespace SE
end SE
def X_are_unlike_names_r1 (K : PySem.W.Frag) [Tbs K] : SS K :=
  (SS.ret (SE.op SO.eq (SE.lenSetT (SE.var 0)) (SE.cb SB.lenQ (SA.cons (SE.var 0) SA.nil))))
def X_are_unlike_names (K : PySem.W.Frag) [Tbs K] : SS K :=
  (SS.seq (SS.ifS (ST.or (ST.not (ST.b (SE.isi "tuple" (SE.var 0)))) (ST.not (ST.b (SE.cb SB.all_ (SA.cons (SE.nl (SN.lc (SI.tup (SE.var 0)) (SG.name 1) ST.yes (SE.call (sp_is_name K) psp_is_nameA (hs_is_nameA K) (SA.cons (SE.var 1) SA.nil)))) SA.nil))))) (SS.ret (SE.bl false)) SS.next)
  (X_are_unlike_names_r1 K))

section
variable {K : PySem.W.Frag} [Tbs K]
theorem strsP_eq : ∀ {l : List PV} {zs : List Str}, strsP l = some zs → l = zs.map .str
  | [], zs, h => by cases h; rfl
  | x :: l, zs, h => by
    cases x with
    | str z =>
      obtain ⟨ys, hy, rfl⟩ := Option.map_eq_some_iff.mp (show (strsP l).map (z :: ·) = some zs from h)
      rw [strsP_eq hy]; rfl
    | _ => cases h
theorem strsP_of : ∀ zs : List Str, strsP (zs.map .str) = some zs
  | [] => rfl
  | z :: zs => by
    show (strsP (zs.map .str)).map (z :: ·) = _
    rw [strsP_of zs]; rfl
theorem nms_strsP : ∀ {l : List PV}, (∀ y ∈ l, nmW y.wv = true) → ∃ zs : List Str, l = zs.map .str ∧ zs.all nameB = true
  | [], _ => ⟨[], rfl, rfl⟩
  | x :: l, h => by
    obtain ⟨zs, e, hn⟩ := nms_strsP fun y hy => h y (List.mem_cons_of_mem _ hy)
    have hx := h x (List.mem_cons_self ..)
    cases x with
    | str z => exact ⟨z :: zs, by rw [e]; rfl, by rw [List.all_cons, hn]; exact Bool.and_eq_true_iff.mpr ⟨hx, rfl⟩⟩
    | _ => cases hx
theorem dcnt_full {xs : List Str} : ∀ i, i ≤ xs.length → dcnt xs i = i → (xs.take i).Nodup
  | 0, _, _ => by simp
  | i + 1, hi, h => by
    have hlt : i < xs.length := hi
    have h1 := dcnt_le xs i
    have e : xs.getD i Str.empty = xs[i] := by rw [List.getD_eq_getElem?_getD, List.getElem?_eq_getElem hlt]; rfl
    unfold dcnt at h
    by_cases hc : ((xs.take i).any fun k => k == xs.getD i Str.empty) = true
    · rw [if_pos hc] at h; omega
    · rw [if_neg hc] at h
      have ih := dcnt_full (xs := xs) i (by omega) (by omega)
      rw [List.take_succ, List.getElem?_eq_getElem hlt]
      refine List.nodup_append.mpr ⟨ih, by simp, fun a ha b hb z => hc ?_⟩
      rw [Option.toList_some, List.mem_singleton] at hb
      refine List.any_eq_true.mpr ⟨a, ha, ?_⟩
      rw [e, z, hb]
      exact beq_self_eq_true _
theorem dcnt_iff (zs : List Str) : decide (((dcnt zs zs.length : Nat) : Int) = (zs.length : Nat)) = decide zs.Nodup := by
  by_cases h : zs.Nodup
  · rw [decide_eq_true h, dcnt_nodup h _ (Nat.le_refl _)]; simp
  · rw [decide_eq_false h, decide_eq_false_iff_not]
    intro z
    have := dcnt_full zs.length (Nat.le_refl _) (by omega)
    rw [List.take_length] at this
    exact h this
theorem tyN_of {x : PV} (h : x.vok = true) : ∃ t0 b, x.tyN = some t0 ∧ kitB t0 "tuple" = some b ∧ (b = true ↔ ∃ l, x = .tup l) := by
  cases x with
  | non => exact ⟨_, false, rfl, by decide +kernel, by simp⟩
  | bl => exact ⟨_, false, rfl, by decide +kernel, by simp⟩
  | int => exact ⟨_, false, rfl, by decide +kernel, by simp⟩
  | str => exact ⟨_, false, rfl, by decide +kernel, by simp⟩
  | tup l => exact ⟨_, true, rfl, by decide +kernel, by simp⟩
  | lst => exact ⟨_, false, rfl, by decide +kernel, by simp⟩
  | dic => exact ⟨_, false, rfl, by decide +kernel, by simp⟩
  | deck => cases h
  | frt => cases h
theorem plain_are_unlike_namesA (xs : List PV) (perr : PErr → Prop) (post : PV → Prop) (h : psp_are_unlikeA xs perr post) : (X_are_unlike_names K).wp (fun _ _ => False) { nx := fun _ => post .non, rt := post } (startE 2 xs) := by
  obtain ⟨x, rfl, hv, hl, h⟩ := h
  have hz := sizeLine_eq
  obtain ⟨t0, b, e1, e2, e3⟩ := tyN_of hv
  unfold X_are_unlike_names
  walk_at "wq"
  refine ⟨t0, b, e1, e2, ?_⟩
  cases b with
  | false =>
    walk_at "wq"
    have : unlB x = false := by
      cases x with
      | tup l => exact absurd (e3.mpr ⟨l, rfl⟩) (by simp)
      | _ => rfl
    rw [this] at h; exact h
  | true =>
    obtain ⟨l, rfl⟩ := e3.mp rfl
    have hl' := hl l rfl
    have hvl := (voks_iff l).mp hv
    walk_at "wq"
    refine lc_map (fun y => .bl (nmW y.wv)) (fun y hy k hk => ?_) (by simp only [List.length_nil]; omega) ?_
    · unfold lcStep
      walk_at "wq"
      refine ⟨y, rfl, hvl y hy, ?_⟩
      exact hk
    · rw [List.nil_append]
      refine ⟨l.map fun y => nmW y.wv, by rw [List.map_map]; rfl, ?_⟩
      by_cases hall : ((l.map fun y => nmW y.wv).all id) = true
      · have hn : ∀ y ∈ l, nmW y.wv = true := fun y hy => List.all_eq_true.mp hall _ (List.mem_map.mpr ⟨y, hy, rfl⟩)
        obtain ⟨zs, rfl, hz2⟩ := nms_strsP hn
        have hu : unlB (.tup (zs.map .str)) = decide zs.Nodup := by
          simp only [unlB]
          rw [strsP_of]
          show (decide zs.Nodup && zs.all nameB) = _
          rw [hz2, Bool.and_true]
        rw [hu] at h
        rw [hall]
        rw [if_neg (by decide)]
        unfold X_are_unlike_names_r1
        walk_at "wq"
        refine ⟨zs, rfl, by rw [List.length_map] at hl'; omega, ?_⟩
        have := dcnt_iff zs
        rw [List.length_map, this]
        exact h
      · have hu : unlB (.tup l) = false := by
          simp only [unlB]
          cases hs : strsP l with
          | none => rfl
          | some zs =>
            show (decide zs.Nodup && zs.all nameB) = false
            rw [Bool.and_eq_false_iff]
            right
            rw [← Bool.not_eq_true]
            intro z
            refine hall ?_
            rw [strsP_eq hs, List.map_map]
            refine List.all_eq_true.mpr fun b hb => ?_
            obtain ⟨w, hw, rfl⟩ := List.mem_map.mp hb
            exact List.all_eq_true.mp z w hw
        rw [hu] at h
        rw [Bool.not_eq_true _ |>.mp hall]
        exact h
theorem goodN_unl {x : PV} : unlB x = true → ∃ zs : List Str, x = sT zs ∧ zs.Nodup ∧ zs.all nameB = true := by
  intro h
  cases x with
  | tup l =>
    simp only [unlB] at h
    cases hs : strsP l with
    | none => rw [hs] at h; exact absurd h (by decide)
    | some zs =>
      rw [hs] at h
      obtain ⟨h1, h2⟩ := Bool.and_eq_true_iff.mp (show (decide zs.Nodup && zs.all nameB) = true from h)
      exact ⟨zs, by rw [strsP_eq hs] <;> rfl, of_decide_eq_true h1, h2⟩
  | _ => cases h
/-! ### readings -/
theorem len_are_unlike_namesA (vs : List V) (H : Hp) (Q : VK) (E : XK) (h : spOf K psp_are_unlikeA vs H Q E) : vs.length = 1 := spOf_len (fun _ _ _ h => by obtain ⟨_, rfl, _⟩ := h; rfl) vs H Q E h
theorem pure_are_unlike_namesA (vs : List V) (H : Hp) (Q : VK) (E : XK) (h : spOf K psp_are_unlikeA vs H Q E) : (X_are_unlike_names K).rd (fun _ => E0) { nx := fun _ H' => Q .non H', rt := Q } (startN 2 vs) H := SS.run0 _ plain_are_unlike_namesA vs H Q E h
end
end Tw
set_option Elab.async false
set_option linter.all false
set_option maxRecDepth 100000
set_option maxHeartbeats 4000000
/-! law k07: names for a skeleton -/
namespace Tw
open PySem PySem.Spec PyProof.Rows L2 TL
namespace SE
variable {K : PySem.W.Frag} [Tbs K]
/-- isinstance(e, T), e an error that may have no fields, T a built-in class -/
def isE0T (a : Addr) (cls : Value) (d : Option Addr) (C : Addr) (T : String) (i : Nat) : SE K where
  rd := fun _ => tCB (rIsX K C cls d a) (tCons (tVar i) (tCons (tC (.ty T)) tNil))
  wp := fun _ ρ P => ∃ er b, ρ[i]? = some (.err a d er) ∧ cls = .ref C ∧ PySem.W.kitOne K (.ref C) (.type T) = some b ∧ P (.bl b) ρ
  ok := by
    intro dk F0 H0 F σ H ρ E PE P Q I e h q
    obtain ⟨er, b, hi, hc, hk, h⟩ := h
    obtain ⟨o, ho, s⟩ := I.slot hi
    cases s with
    | err ea =>
      refine ⟨_, ho, .ty T, .type T, b, rfl, hc, ?_, fun u z => z, hk, q _ _ _ _ _ Grow.refl I (.bl _) h⟩
      rcases ea with ⟨e1, _⟩ | ⟨p, fv, rfl, fp, hp, r⟩
      · exact .inl e1
      · exact .inr ⟨p, fv, rfl, hp⟩
end SE
theorem w_SE_isE0T {K : PySem.W.Frag} [Tbs K] {a : Addr} {cls : Value} {d : Option Addr} {C : Addr} {T : String} {i : Nat} {u0 : PEK} {ρ : Env} {P : PV → Env → Prop} : (SE.isE0T a cls d C T i : SE K).wp u0 ρ P = (∃ er b, ρ[i]? = some (.err a d er) ∧ cls = .ref C ∧ PySem.W.kitOne K (.ref C) (.type T) = some b ∧ P (.bl b) ρ) := rfl
theorem w_SE_lamM {K : PySem.W.Frag} [Tbs K] {l : List (PCl K)} {n : Nat} {rest : SS K} {body : SE K} {u0 : PEK} {ρ : Env} {P : PV → Env → Prop} : (SE.lamM l n rest body : SE K).wp u0 ρ P = (1 ≤ n ∧ body.wp (fun _ er => wpMix (fun _ _ => False) { nx := fun ρ2 => rest.wp (fun _ _ => False) { nx := fun _ => P .non ρ, rt := fun x => P x ρ } ρ2, rt := fun x => P x ρ } l (List.replicate n .no) er)
    (ρ.map seen) fun _ _ => rest.wp (fun _ _ => False) { nx := fun _ => P .non ρ, rt := fun x => P x ρ } (List.replicate n .no)) := rfl
local macro_rules | `(tactic| walk_at "wq") => `(tactic| try simp (config := { maxSteps := 1000000 }) only [↓w_SE_var, ↓w_SE_non, ↓w_SE_bl, ↓w_SE_int, ↓w_SE_str, ↓w_SE_op, ↓w_SE_un, ↓w_SE_cb, ↓w_SE_tup, ↓w_SE_lst, ↓w_SE_ifE, ↓w_SE_isN, ↓w_SE_notN, ↓w_SA_nil, ↓w_SA_cons, ↓w_ST_not, ↓w_ST_and, ↓w_ST_or, ↓w_ST_yes, ↓w_ST_tru, ↓w_SG_name, ↓w_SS_next, ↓w_SS_brk, ↓w_SS_cont, ↓w_SS_never, ↓w_SS_seq, ↓w_SS_cut, ↓w_SS_asg, ↓w_SS_drop, ↓w_SS_ret, ↓w_SS_retN, ↓w_SS_ifS, ↓w_SS_for_, ↓w_SS_while_, ↓w_SN_lst, ↓w_SE_nl, ↓w_SS_own, ↓w_SN_lc, ↓w_SE_call, ↓w_SE_callS, ↓w_SE_pop, ↓w_SP__no, ↓w_SS_raise0, ↓w_SS_raise1, ↓w_SS_raise2, ↓w_SS_tryO, ↓w_SS_tryA, ↓w_SS_tryM, ↓w_SE_xf, ↓w_SE_isE, ↓w_SE_popAt, ↓w_SN_slO, ↓w_SN_sortedS, ↓w_SN_sortedI, ↓w_SS_asg2, ↓w_SS_par, ↓w_SE_joined, ↓w_SE_join, ↓w_SE_txtB, ↓w_SE_lenSetT, ↓w_SE_chain, ↓w_SO_inSign, ↓w_SO_eqE, ↓w_SB_all_, ↓w_SB_repr, ↓c_i0, ↓c_c0, ↓c_iC, ↓c_addS, ↓c_repS, ↓c_catT, ↓c_ixS, ↓c_ixT, ↓c_ixL, ↓c_eq_ii, ↓c_eq_ss, ↓c_eq_ns, ↓c_eq_sn, ↓c_eq_bb, ↓c_eq_nn, ↓c_eq_ni, ↓c_eq_in, ↓c_ne_ii, ↓c_ne_ss, ↓c_ne_bb, ↓c_ne_ns, ↓c_ne_sn, ↓c_ne_nn, ↓c_ne_ni, ↓c_ne_in, ↓c_inST, ↓c_inSL, ↓c_lenS, ↓c_lenQt, ↓c_lenQl, ↓c_abs, ↓c_int1i, ↓c_int1b, ↓c_tupl, ↓c_tupt, ↓c_max2, ↓c_min2, ↓c_neg, ↓c_tst, ↓c_asI, ↓c_asS, ↓c_asT, ↓c_asL, ↓c_asQl, ↓c_asQt, ↓o_tt, ↓o_ts, ↓o_tl, ↓o_ti, ↓o_st, ↓o_ss, ↓o_sl_, ↓o_si, ↓o_lt, ↓o_ls, ↓o_ll, ↓o_li, ↓o_it, ↓o_is, ↓o_il, ↓o_ii, ↓o_bt, ↓o_bs, ↓o_bl_, ↓o_bi, ↓o_nt, ↓o_ns, ↓o_nl, ↓o_ni, ↓o_dt, ↓o_ds, ↓o_dl, ↓o_di, ↓v_test, ↓v_b, ↓v_andV, ↓v_orV, ↓v_notV, ↓v_isi, ↓v_at, ↓v_slS, ↓v_slT, ↓v_slL, ↓v_listOf, ↓v_revL, ↓v_revT, ↓v_cat, ↓v_rep, ↓v_ilist, ↓v_itup, ↓v_istr, ↓v_enumL, ↓v_enumT, ↓v_rng1, ↓v_rng2, ↓c_rng1, ↓c_rng2, ↓v_zipA, ↓c_zipt, ↓c_zipl, ↓v_gtup, ↓c_unp, ↓v_gunl, ↓c_unpL, ↓v_fmt, ↓c_fmts, ↓c_fmti, ↓v_js, ↓v_lenO, ↓v_tupO, ↓v_listO, ↓v_truO, ↓v_eqEO, ↓v_append, ↓v_ixO, ↓v_extendT, ↓v_extendL, ↓v_insert, ↓v_setL, ↓v_inO, ↓v_v0, ↓v_v0o, ↓v_v0d, ↓v_vs, ↓v_o0, ↓v_os, ↓v_d0, ↓v_ds, tr_non, tr_bl, tr_int, tr_str, tr_tup, tr_lst, tr_dic, in_non, in_bl, in_int, in_str, in_tup, in_lst, in_dic, we_nil, we_cons, sl_name, sl_tup, sl_unl, sa_nil, sa_cons, pr_val, pr_own, st_app, st_nil, js_nil, List.getElem?_cons_zero, List.getElem?_cons_succ, List.set_cons_zero, List.set_cons_succ, List.length_cons, List.length_nil, List.replicate_succ, List.replicate_zero, if_true, Bool.not_true, Bool.not_false, Bool.false_eq_true, if_false, ite_true, ite_false, decide_true, decide_false, Nat.reduceSub, Nat.reduceAdd, Nat.zero_add, true_and, and_true, ↓w_SE_nl, ↓w_SE_lamM, ↓w_SE_isE0T, ↓w_SE_isE0, ↓w_SE_isET, ↓w_SE_dcon, ↓w_SE_dnew, ↓w_SO_inA, ↓w_SO_eqE])
def psp_check_namesN (BN NN : Addr) : PSp := fun xs perr post => ∃ (f : Fo) (x : PV), xs = [f.pv, x] ∧ NameOk f ∧ x.vok = true ∧ (∀ l, x = .tup l → l.length ≤ 1000) ∧ (unlB x = false → perr (BN, [])) ∧
  ∀ zs : List Str, x = sT zs → unlB x = true → (∀ y, missP (zs.map .str) f.nm = some y → perr (NN, [("name", y)])) ∧ ((∀ z ∈ zs, z ∈ f.nm) → zs.Nodup → post .non)
def psp_skeleton_ofN (BN NN : Addr) : PSp := fun xs perr post => ∃ (f : Fo) (x : PV), xs = [f.pv, x] ∧ NameOk f ∧ x.vok = true ∧ (∀ l, x = .tup l → l.length ≤ 1000) ∧ (unlB x = false → perr (BN, [])) ∧
  ∀ zs : List Str, x = sT zs → unlB x = true → (∀ y, missP (zs.map .str) f.nm = some y → perr (NN, [("name", y)])) ∧ ((∀ z ∈ zs, z ∈ f.nm) → zs.Nodup → post (f.skel zs).pv)
def psp_gaps_ofN (BN NN : Addr) : PSp := fun xs perr post => ∃ (f : Fo) (x : PV), xs = [f.pv, x] ∧ NameOk f ∧ x.vok = true ∧ (∀ l, x = .tup l → l.length ≤ 1000) ∧ (unlB x = false → perr (BN, [])) ∧
  ∀ zs : List Str, x = sT zs → unlB x = true → (∀ y, missP (zs.map .str) f.nm = some y → perr (NN, [("name", y)])) ∧ ((∀ z ∈ zs, z ∈ f.nm) → zs.Nodup → post (gpv (gapL zs f.erow [])))
def itsP : PV → List PV
  | .tup l => l
  | _ => []
/-- what is due -/
def due7 (ts : List Str) (x : PV) : PV := if unlB x = true then (match missP (itsP x) ts with | none => .str "nothing" | some y => .tup [.str "name", y, .bl false, .bl true]) else .tup [.str "names", .bl true]
def psp_l_due07 : PSp := fun xs _ post => ∃ (x : PV) (ts : List Str), xs = [x, sL ts] ∧ x.vok = true ∧ (∀ l, x = .tup l → l.length ≤ 1000) ∧ ts.length ≤ 1000 ∧ post (due7 ts x)
inductive Cf07 (K : PySem.W.Frag) (T BN NN : Addr) : Prop
  | mk (e1 : PySem.W.exmOne K (.ref BN) (.ref BN) = some true) (e2 : PySem.W.exmOne K (.ref NN) (.ref BN) = some false) (e3 : PySem.W.exmOne K (.ref NN) (.ref NN) = some true)
    (k1 : PySem.W.kitOne K (.ref BN) (.ref T) = some true) (k2 : PySem.W.kitOne K (.ref BN) (.type "LookupError") = some false) (k3 : PySem.W.kitOne K (.ref NN) (.ref T) = some false) (k4 : PySem.W.kitOne K (.ref NN) (.type "LookupError") = some true)
def CL7 (K : PySem.W.Frag) [Tbs K] (T BN NN : Addr) : List (PCl K) :=
  [(BN, some 1, fun a cls d => (SS.seq (SS.asg (SE.andV (SE.isE0 a cls d BN T 1) (SE.notV (SE.isE0T a cls d BN "LookupError" 1))) (SG.name 2))
  (SS.ret (SE.tup (SA.cons (SE.str "names") (SA.cons (SE.var 2) SA.nil)))))), (NN, some 1, fun a cls d => (SS.ret (SE.tup (SA.cons (SE.str "name") (SA.cons (SE.xf a cls d NN "name" 1) (SA.cons (SE.isE a cls d NN T 1) (SA.cons (SE.isET a cls d NN "LookupError" 1) SA.nil)))))))]
def RS7 (K : PySem.W.Frag) [Tbs K] : SS K := SS.ret (SE.str "nothing")
theorem atw_nt {K : PySem.W.Frag} {H : Hp} {v : V} {x : WV} (h : AtW K H v x) (hn : ∀ z, x ≠ .txt z) : Nt K H v := by
  cases h with
  | txt hl => exact absurd rfl (hn _)
  | oth h => exact .oth h
  | tup h _ => exact .tup h
theorem hs_l_is_nameI (K : PySem.W.Frag) [Tbs K] : SpOk K (sp_l_is_name K) psp_l_is_nameS := by
  rintro dk F H vs xs perr post Q E s r ⟨x, rfl, hv, h3⟩ q _
  cases r with
  | cons a b =>
    cases b
    have ha := rep_atw a hv
    refine ⟨_, rfl, ?_, fun H' k => q _ H' F _ (s.kp k) (.bl _) ?_⟩
    · rcases ha.noStr with ⟨z, rfl, e, hl⟩ | ⟨hn, hne⟩
      · exact .inl ⟨z, rfl, hl⟩
      · exact .inr (atw_nt ha hne)
    · rw [ha.isNm]; exact h3
def X_skeleton_ofN (K : PySem.W.Frag) [Tbs K] (A_BadNames A_NoName : Addr) : SS K :=
  (SS.seq (SS.drop (SE.callS (spOf K (psp_check_namesN A_BadNames A_NoName)) (psp_check_namesN A_BadNames A_NoName) (spOf_ok K (psp_check_namesN A_BadNames A_NoName)) (SA.cons (SE.var 0) (SA.cons (SE.var 1) SA.nil))))
  (SS.ret (SE.call (sp_unchecked_wood K) psp_unchecked_wood (hs_unchecked_wood K) (SA.cons (SE.nl (SN.lc (SI.tup (SE.call (sp_row_of K) psp_row_of (hs_row_of K) (SA.cons (SE.var 0) SA.nil))) (SG.name 2) (ST.test (SE.op (SO.inS false) (SE.slS (SE.var 2) (SP_.at_ (SE.int 1)) SP_.no) (SE.var 1))) (SE.var 2))) SA.nil))))

def X_gaps_ofN_b1 (K : PySem.W.Frag) [Tbs K] (A_BadNames A_NoName : Addr) : SS K :=
  (SS.ifS (ST.test (SE.op (SO.inS false) (SE.slS (SE.var 4) (SP_.at_ (SE.int 1)) SP_.no) (SE.var 1))) (SS.seq (SS.append 2 (SE.tupO 3))
  (SS.own 3 (SN.lst SA.nil))) (SS.append 3 (SE.var 4)))
def X_gaps_ofN (K : PySem.W.Frag) [Tbs K] (A_BadNames A_NoName : Addr) : SS K :=
  (SS.seq (SS.drop (SE.callS (spOf K (psp_check_namesN A_BadNames A_NoName)) (psp_check_namesN A_BadNames A_NoName) (spOf_ok K (psp_check_namesN A_BadNames A_NoName)) (SA.cons (SE.var 0) (SA.cons (SE.var 1) SA.nil))))
  (SS.seq (SS.own 2 (SN.lst SA.nil))
  (SS.seq (SS.own 3 (SN.lst SA.nil))
  (SS.seq (SS.for_ (SI.tup (SE.call (sp_row_of K) psp_row_of (hs_row_of K) (SA.cons (SE.var 0) SA.nil))) (SG.name 4) (X_gaps_ofN_b1 K A_BadNames A_NoName))
  (SS.seq (SS.append 2 (SE.tupO 3))
  (SS.ret (SE.tupO 2)))))))

def X_u_check_namesN (K : PySem.W.Frag) [Tbs K] (A_BadNames A_NoName : Addr) : SS K :=
  (SS.seq (SS.ifS (ST.not (ST.b (SE.call (spOf K psp_are_unlikeA) psp_are_unlikeA (spOf_ok K psp_are_unlikeA) (SA.cons (SE.var 1) SA.nil)))) (SS.raise0 A_BadNames) SS.next)
  (SS.drop (SE.callS (spOf K (psp_check_thereN A_NoName)) (psp_check_thereN A_NoName) (spOf_ok K (psp_check_thereN A_NoName)) (SA.cons (SE.call (sp_parents_of K) psp_parents_ofD (hs_parents_ofD K) (SA.cons (SE.var 0) SA.nil)) (SA.cons (SE.var 1) SA.nil)))))

def X_l_due07_b1 (K : PySem.W.Frag) [Tbs K] : SS K :=
  (SS.ifS (ST.not (ST.b (SE.call (sp_l_is_name K) psp_l_is_nameS (hs_l_is_nameI K) (SA.cons (SE.var 2) SA.nil)))) (SS.ret (SE.tup (SA.cons (SE.str "names") (SA.cons (SE.bl true) SA.nil)))) SS.next)
def X_l_due07 (K : PySem.W.Frag) [Tbs K] : SS K :=
  (SS.seq (SS.ifS (ST.not (ST.b (SE.isi "tuple" (SE.var 0)))) (SS.ret (SE.tup (SA.cons (SE.str "names") (SA.cons (SE.bl true) SA.nil)))) SS.next)
  (SS.seq (SS.for_ (SI.tup (SE.var 0)) (SG.name 2) (X_l_due07_b1 K))
  (SS.seq (SS.ifS (ST.test (SE.op SO.ne (SE.lenSetT (SE.var 0)) (SE.cb SB.lenQ (SA.cons (SE.var 0) SA.nil)))) (SS.ret (SE.tup (SA.cons (SE.str "names") (SA.cons (SE.bl true) SA.nil)))) SS.next)
  (SS.seq (SS.asg (SE.nl (SN.lc (SI.tup (SE.var 0)) (SG.name 2) (ST.test (SE.op (SO.inA true) (SE.var 2) (SE.var 1))) (SE.var 2))) (SG.name 3))
  (SS.ret (SE.ifE (ST.test (SE.op (SO.eqE false) (SE.var 3) (SE.nl (SN.lst SA.nil)))) (SE.str "nothing") (SE.tup (SA.cons (SE.str "name") (SA.cons (SE.op SO.ixL (SE.var 3) (SE.int 0)) (SA.cons (SE.bl false) (SA.cons (SE.bl true) SA.nil)))))))))))

def X_law07_r1 (K : PySem.W.Frag) [Tbs K] (A_TwigError A_BadNames A_NoName : Addr) : SS K :=
  (SS.append 7 (SE.var 9))
def X_law07_r2 (K : PySem.W.Frag) [Tbs K] (A_TwigError A_BadNames A_NoName : Addr) : SS K :=
  (SS.cut (SS.ifS (ST.and (ST.test (SE.op SO.eq (SE.call sp_l_draw psp_l_draw (hs_l_draw K) (SA.cons (SE.var 1) (SA.cons (SE.int 2) SA.nil))) (SE.int 0))) (ST.test (SE.op (SO.eqE true) (SE.var 3) (SE.nl (SN.lst SA.nil))))) (SS.asg (SE.op SO.ixL (SE.var 3) (SE.op (SO.iC (fun _ j => 0 < j) fun i j => i % j) (SE.var 8) (SE.cb SB.lenQ (SA.cons (SE.var 3) SA.nil)))) (SG.name 9)) SS.next)
  (X_law07_r1 K A_TwigError A_BadNames A_NoName))
def X_law07_r3 (K : PySem.W.Frag) [Tbs K] (A_TwigError A_BadNames A_NoName : Addr) : SS K :=
  (SS.cut (SS.ifS (ST.test (SE.op SO.eq (SE.call sp_l_draw psp_l_draw (hs_l_draw K) (SA.cons (SE.var 1) (SA.cons (SE.var 6) SA.nil))) (SE.int 0))) (SS.asg (SE.call (spOf K psp_l_odd05) psp_l_odd05 (spOf_ok K psp_l_odd05) (SA.cons (SE.var 1) SA.nil)) (SG.name 9)) SS.next)
  (X_law07_r2 K A_TwigError A_BadNames A_NoName))
def X_law07_b1 (K : PySem.W.Frag) [Tbs K] (A_TwigError A_BadNames A_NoName : Addr) : SS K :=
  (SS.seq (SS.asg (SE.op SO.ixL (SE.var 2) (SE.op (SO.iC (fun _ j => 0 < j) fun i j => i % j) (SE.op (SO.i0 fun i j => i + j) (SE.op (SO.iC CMul fun i j => i * j) (SE.var 8) (SE.int 3)) (SE.var 6)) (SE.int 10))) (SG.name 9))
  (SS.cut (SS.ifS (ST.test (SE.op SO.eq (SE.call sp_l_draw psp_l_draw (hs_l_draw K) (SA.cons (SE.var 1) (SA.cons (SE.int 3) SA.nil))) (SE.int 0))) (SS.asg (SE.call (sp_l_pick K) psp_l_pick (hs_l_pick K) (SA.cons (SE.var 1) (SA.cons (SE.var 2) SA.nil))) (SG.name 9)) SS.next)
  (X_law07_r3 K A_TwigError A_BadNames A_NoName)))
def X_law07_b2 (K : PySem.W.Frag) [Tbs K] (A_TwigError A_BadNames A_NoName : Addr) : SS K :=
  (SS.seq (SS.ifS (ST.test (SE.op SO.ne (SE.cb SB.reprX (SA.cons (SE.lamM (CL7 K A_TwigError A_BadNames A_NoName) 3 (RS7 K) (SE.callS (spOf K (psp_skeleton_ofN A_BadNames A_NoName)) (psp_skeleton_ofN A_BadNames A_NoName) (spOf_ok K (psp_skeleton_ofN A_BadNames A_NoName)) (SA.cons (SE.var 4) (SA.cons (SE.var 10) SA.nil)))) SA.nil)) (SE.var 11))) (SS.ret (SE.bl false)) SS.next)
  (SS.ifS (ST.test (SE.op SO.ne (SE.cb SB.reprX (SA.cons (SE.lamM (CL7 K A_TwigError A_BadNames A_NoName) 3 (RS7 K) (SE.callS (spOf K (psp_gaps_ofN A_BadNames A_NoName)) (psp_gaps_ofN A_BadNames A_NoName) (spOf_ok K (psp_gaps_ofN A_BadNames A_NoName)) (SA.cons (SE.var 4) (SA.cons (SE.var 10) SA.nil)))) SA.nil)) (SE.var 11))) (SS.ret (SE.bl false)) SS.next))
def X_law07_r4 (K : PySem.W.Frag) [Tbs K] (A_TwigError A_BadNames A_NoName : Addr) : SS K :=
  (SS.seq (SS.asg (SE.cb SB.reprX (SA.cons (SE.call (spOf K psp_l_due07) psp_l_due07 (spOf_ok K psp_l_due07) (SA.cons (SE.var 10) (SA.cons (SE.var 3) SA.nil))) SA.nil)) (SG.name 11))
  (SS.seq (SS.for_ (SI.rng1 (SA.cons (SE.int 2) SA.nil)) (SG.name 8) (X_law07_b2 K A_TwigError A_BadNames A_NoName))
  (SS.ret (SE.bl true))))
def X_law07 (K : PySem.W.Frag) [Tbs K] (A_TwigError A_BadNames A_NoName : Addr) : SS K :=
  (SS.seq (SS.asg (SE.call sp_l_names psp_l_names (hs_l_names K) (SA.cons (SE.var 1) (SA.cons (SE.int 10) SA.nil))) (SG.name 2))
  (SS.seq (SS.asg (SE.nl (SN.slL (SE.var 2) SP_.no (SP_.at_ (SE.call sp_l_draw psp_l_draw (hs_l_draw K) (SA.cons (SE.var 1) (SA.cons (SE.int 9) SA.nil)))))) (SG.name 3))
  (SS.seq (SS.asg (SE.call (sp_l_wood K) psp_l_wood (hs_l_wood K) (SA.cons (SE.var 1) (SA.cons (SE.var 3) SA.nil))) (SG.name 4))
  (SS.seq (SS.par 5 6 (.val (SE.call sp_l_draw psp_l_draw (hs_l_draw K) (SA.cons (SE.var 1) (SA.cons (SE.int 8) SA.nil)))) (.val (SE.op (SO.i0 fun i j => i + j) (SE.int 1) (SE.call sp_l_draw psp_l_draw (hs_l_draw K) (SA.cons (SE.var 1) (SA.cons (SE.int 9) SA.nil))))))
  (SS.seq (SS.own 7 (SN.lst SA.nil))
  (SS.seq (SS.for_ (SI.rng1 (SA.cons (SE.call sp_l_draw psp_l_draw (hs_l_draw K) (SA.cons (SE.var 1) (SA.cons (SE.int 7) SA.nil))) SA.nil)) (SG.name 8) (X_law07_b1 K A_TwigError A_BadNames A_NoName))
  (SS.seq (SS.asg (SE.tupO 7) (SG.name 10))
  (SS.cut (SS.ifS (ST.test (SE.op SO.eq (SE.var 5) (SE.int 2))) (SS.asg (SE.call (sp_l_pick K) psp_l_pick (hs_l_pick K) (SA.cons (SE.var 1) (SA.cons (SE.nl (SN.lst (SA.cons (SE.var 7) (SA.cons SE.non (SA.cons (SE.str "a") (SA.cons (SE.int 3) (SA.cons SE.dnew (SA.cons (SE.bl true) SA.nil)))))))) SA.nil))) (SG.name 10)) SS.next)
  (X_law07_r4 K A_TwigError A_BadNames A_NoName)))))))))
section
variable {K : PySem.W.Frag} [Tbs K]
theorem miss_all {zs nms : List Str} (h : missP (zs.map .str) nms = none) : ∀ z ∈ zs, z ∈ nms := fun z hz => by
  have := List.find?_eq_none.mp h (.str z) (List.mem_map.mpr ⟨z, hz, rfl⟩)
  simpa [thereP] using this
theorem sT_vok {zs : List Str} (h : zs.all nameB = true) : ∀ y ∈ zs.map PV.str, y.vok = true := fun y hy => by
  obtain ⟨z, hz, rfl⟩ := List.mem_map.mp hy
  have := (name_of_B (List.all_eq_true.mp h z hz)).eight
  exact decide_eq_true (by omega)
theorem plain_u_check_namesN {BN NN : Addr} (xs : List PV) (perr : PErr → Prop) (post : PV → Prop) (h : psp_check_namesN BN NN xs perr post) : (X_u_check_namesN K BN NN).wp (fun _ => perr) { nx := fun _ => post .non, rt := post } (startE 2 xs) := by
  obtain ⟨f, x, rfl, nok, hv, hl, h0, h⟩ := h
  unfold X_u_check_namesN
  walk_at "wq"
  refine ⟨x, rfl, hv, hl, ?_⟩
  cases hu : unlB x with
  | false =>
    walk_at "wq"
    exact h0 hu
  | true =>
    obtain ⟨zs, rfl, nd, hn⟩ := goodN_unl hu
    obtain ⟨h1, h2⟩ := h zs rfl hu
    walk_at "wq"
    refine ⟨f, rfl, nok, ?_⟩
    exact ⟨f, zs.map .str, rfl, sT_vok hn, h1, fun hm => h2 (miss_all hm) nd⟩
theorem plain_skeleton_ofN {BN NN : Addr} (xs : List PV) (perr : PErr → Prop) (post : PV → Prop) (h : psp_skeleton_ofN BN NN xs perr post) : (X_skeleton_ofN K BN NN).wp (fun _ => perr) { nx := fun _ => post .non, rt := post } (startE 3 xs) := by
  obtain ⟨f, x, rfl, nok, hv, hl, h0, h⟩ := h
  have hz := sizeLine_eq
  have hsz := nok.sz
  unfold X_skeleton_ofN
  walk_at "wq"
  refine ⟨f, x, rfl, nok, hv, hl, h0, fun zs e hu => ⟨(h zs e hu).1, fun hin nd => ?_⟩⟩
  have hp := (h zs e hu).2 hin nd
  subst e
  refine ⟨f, rfl, hsz, nok.short, ?_⟩
  have hlen : f.erow.length = 2 * f.nm.length := by rw [← row_len f, Fo.row_erow, List.length_map]
  rw [Fo.row_erow]
  unfold sT
  walk_at "wq"
  refine lc_fm (fun x => match x with | .str z => (if cutS z (some 1) none ∈ zs then some (.str z) else none) | _ => none) (fun x hx k hk => ?_) (by simp only [List.length_map, List.length_nil]; omega) ?_
  · obtain ⟨z, hzm, rfl⟩ := List.mem_map.mp hx
    obtain ⟨e, he, rfl⟩ := List.mem_map.mp hzm
    have h8 := (nok.nms _ (erow_nm f e he)).eight
    have hel : (en e).length ≤ sizeLine := by rw [en_len]; omega
    unfold lcStep
    walk_at "wq"
    refine ⟨hel, ?_⟩
    simp only [en_cut1] at hk ⊢
    by_cases hm : e.2 ∈ zs
    · simp only [hm, decide_true, if_true] at hk ⊢
      exact hk
    · simp only [hm, decide_false, if_false] at hk ⊢
      exact hk
  · have key : ∀ es : List En, ((es.map en).map PV.str).filterMap (fun x => match x with | .str z => (if cutS z (some 1) none ∈ zs then some (PV.str z) else none) | _ => none) = ((es.filter fun e => decide (e.2 ∈ zs)).map en).map PV.str := by
      intro es
      induction es with
      | nil => rfl
      | cons e es ih =>
        rw [List.map_cons, List.map_cons, List.filterMap_cons, List.filter_cons]
        by_cases hm : e.2 ∈ zs
        · simp only [en_cut1, hm, if_true, decide_true, ih, List.map_cons]
        · simp only [en_cut1, hm, if_false, decide_false, Bool.false_eq_true, ih]
    rw [List.nil_append, key, ← Fo.erow_skel, ← Fo.row_erow]
    exact ⟨f.skel zs, .inr rfl, nok.skel zs, hp⟩
theorem plain_gaps_ofN {BN NN : Addr} (xs : List PV) (perr : PErr → Prop) (post : PV → Prop) (h : psp_gaps_ofN BN NN xs perr post) : (X_gaps_ofN K BN NN).wp (fun _ => perr) { nx := fun _ => post .non, rt := post } (startE 5 xs) := by
  obtain ⟨f, x, rfl, nok, hv, hl, h0, h⟩ := h
  have hz := sizeLine_eq
  have hsz := nok.sz
  unfold X_gaps_ofN
  walk_at "wq"
  refine ⟨f, x, rfl, nok, hv, hl, h0, fun zs e hu => ⟨(h zs e hu).1, fun hin nd => ?_⟩⟩
  have hp := (h zs e hu).2 hin nd
  subst e
  refine ⟨by omega, by omega, f, rfl, hsz, nok.short, ?_⟩
  have hlen : f.erow.length = 2 * f.nm.length := by rw [← row_len f, Fo.row_erow, List.length_map]
  rw [Fo.row_erow]
  unfold sT
  walk_at "wq"
  refine for_inv (fun i ρ => ∃ (gs : List (List Str)) (cur : List Str) (s : Sl), ρ = [.val f.pv, .val (.tup (zs.map .str)), .own (gs.map sT), .own (cur.map .str), s] ∧ gapL zs f.erow [] = gs ++ gapL zs (f.erow.drop i) cur ∧ gs.length ≤ i ∧ cur.length ≤ i) ⟨[], [], _, rfl, rfl, Nat.le_refl _, Nat.le_refl _⟩ (fun i x ρ k hx hi hk => ?_) fun ρ hi => ?_
  · obtain ⟨gs, cur, s, rfl, hg, h1, h2⟩ := hi
    rw [List.getElem?_map, List.getElem?_map] at hx
    obtain ⟨z, hx1, hx2⟩ := Option.map_eq_some_iff.mp hx
    obtain ⟨e, hx3, hx4⟩ := Option.map_eq_some_iff.mp hx1
    subst hx4 hx2
    obtain ⟨hil, hxe⟩ := List.getElem?_eq_some_iff.mp hx3
    have h8 := (nok.nms _ (erow_nm f e (by rw [← hxe]; exact List.getElem_mem ..))).eight
    have hel : (en e).length ≤ sizeLine := by rw [en_len]; omega
    have hdr : f.erow.drop i = e :: f.erow.drop (i + 1) := by rw [List.drop_eq_getElem_cons hil, hxe]
    rw [hdr, gapL_cons] at hg
    unfold X_gaps_ofN_b1
    walk_at "wq"
    refine ⟨hel, ?_⟩
    rw [en_cut1]
    by_cases hm : e.2 ∈ zs
    · rw [if_pos hm] at hg
      simp only [hm, decide_true]
      walk_at "wq"
      refine ⟨by rw [List.length_map]; omega, by omega, hk _ ⟨gs ++ [cur], [], .val (.str (en e)), by simp [sT], by rw [List.append_assoc]; exact hg, by rw [List.length_append, List.length_singleton]; omega, by simp⟩⟩
    · rw [if_neg hm] at hg
      simp only [hm, decide_false]
      walk_at "wq"
      refine ⟨by rw [List.length_map]; omega, hk _ ⟨gs, cur ++ [en e], .val (.str (en e)), by simp, hg, by omega, by rw [List.length_append, List.length_singleton]; omega⟩⟩
  · obtain ⟨gs, cur, s, rfl, hg, h1, h2⟩ := hi
    simp only [List.length_map] at h1 h2 hg
    rw [List.drop_length] at hg
    walk_at "wq"
    refine ⟨by rw [List.length_map]; omega, ?_⟩
    have : gpv (gapL zs f.erow []) = .tup (gs.map sT ++ [sT cur]) := by rw [hg]; unfold gapL gpv; rw [List.map_append]; rfl
    rw [this] at hp; exact hp
theorem len_u_check_namesN {BN NN : Addr} (vs : List V) (H : Hp) (Q : VK) (E : XK) (h : spOf K (psp_check_namesN BN NN) vs H Q E) : vs.length = 2 := spOf_len (fun _ _ _ h => by obtain ⟨_, _, rfl, _⟩ := h; rfl) vs H Q E h
theorem pure_u_check_namesN {BN NN : Addr} (vs : List V) (H : Hp) (Q : VK) (E : XK) (h : spOf K (psp_check_namesN BN NN) vs H Q E) : (X_u_check_namesN K BN NN).rd (fun _ => E) { nx := fun _ H' => Q .non H', rt := Q } (startN 2 vs) H := SS.run _ plain_u_check_namesN vs H Q E h
theorem len_skeleton_ofN {BN NN : Addr} (vs : List V) (H : Hp) (Q : VK) (E : XK) (h : spOf K (psp_skeleton_ofN BN NN) vs H Q E) : vs.length = 2 := spOf_len (fun _ _ _ h => by obtain ⟨_, _, rfl, _⟩ := h; rfl) vs H Q E h
theorem pure_skeleton_ofN {BN NN : Addr} (vs : List V) (H : Hp) (Q : VK) (E : XK) (h : spOf K (psp_skeleton_ofN BN NN) vs H Q E) : (X_skeleton_ofN K BN NN).rd (fun _ => E) { nx := fun _ H' => Q .non H', rt := Q } (startN 3 vs) H := SS.run _ plain_skeleton_ofN vs H Q E h
theorem len_gaps_ofN {BN NN : Addr} (vs : List V) (H : Hp) (Q : VK) (E : XK) (h : spOf K (psp_gaps_ofN BN NN) vs H Q E) : vs.length = 2 := spOf_len (fun _ _ _ h => by obtain ⟨_, _, rfl, _⟩ := h; rfl) vs H Q E h
theorem pure_gaps_ofN {BN NN : Addr} (vs : List V) (H : Hp) (Q : VK) (E : XK) (h : spOf K (psp_gaps_ofN BN NN) vs H Q E) : (X_gaps_ofN K BN NN).rd (fun _ => E) { nx := fun _ H' => Q .non H', rt := Q } (startN 5 vs) H := SS.run _ plain_gaps_ofN vs H Q E h
theorem spv_bl (b : Bool) : SpV (.bl b) 1 10 0 := by
  cases b <;> exact ⟨rfl, Nat.le_refl 1, rfl, by decide +kernel, by decide +kernel, by decide +kernel, by decide +kernel⟩
/-- what is due can be shown -/
theorem show7 {ts : List Str} {x : PV} (hx : unlB x = true → ∀ y ∈ itsP x, ∃ z, y = .str z ∧ IsName z) {P : PV → Prop} (q : P (.str (due7 ts x).pdX.shown)) : (SB.reprX : SB K).wp [due7 ts x] P := by
  have hz := sizeLine_eq
  unfold due7 at q ⊢
  by_cases hu : unlB x = true
  · rw [if_pos hu] at q ⊢
    cases hm : missP (itsP x) ts with
    | none =>
      rw [hm] at q
      have : (PV.str "nothing").pdX.shown.length ≤ 20 := by decide +kernel
      exact ⟨_, rfl, by decide +kernel, by decide +kernel, by decide +kernel, Nat.le_trans this (by omega), q⟩
    | some y =>
      rw [hm] at q
      obtain ⟨z, rfl, hn⟩ := hx hu y (miss_mem hm)
      have h8 := hn.eight
      have s : SpV (.tup [.str "name", .str z, .bl false, .bl true]) _ _ 1 := SpV.of_items (d := 0) (fun w hw => by
        simp only [List.mem_cons, List.not_mem_nil, or_false] at hw
        rcases hw with rfl | rfl | rfl | rfl
        · exact ⟨_, _, SpV.str (by decide +kernel) (by decide +kernel)⟩
        · exact ⟨_, _, SpV.name hn⟩
        · exact ⟨_, _, spv_bl _⟩
        · exact ⟨_, _, spv_bl _⟩)
      have hw : wtS [PV.str "name", .str z, .bl false, .bl true] ≤ z.length + 100 := by
        have h4 : (("name" : Str)).cps.size = 4 := by decide +kernel
        have h5 : z.cps.size = z.length := rfl
        simp only [wtS, PV.pdXs, PyData.weightAll, PV.pdX, PyData.weight]
        omega
      exact ⟨_, rfl, s.pl, s.sh, Nat.le_trans s.dp (by omega), PyData.shown_fits (B := 13) (by decide) (by decide) s.lv (Nat.le_trans s.wt (by omega)), q⟩
  · rw [if_neg hu] at q ⊢
    have : (PV.tup [.str "names", .bl true]).pdX.shown.length ≤ 40 := by decide +kernel
    exact ⟨_, rfl, by decide +kernel, by decide +kernel, by decide +kernel, Nat.le_trans this (by omega), q⟩
theorem unl_its {x : PV} (h : unlB x = true) : ∀ y ∈ itsP x, ∃ z, y = .str z ∧ IsName z := by
  obtain ⟨zs, rfl, nd, hn⟩ := goodN_unl h
  intro y hy
  obtain ⟨z, hz, rfl⟩ := List.mem_map.mp (show y ∈ zs.map PV.str from hy)
  exact ⟨z, rfl, name_of_B (List.all_eq_true.mp hn z hz)⟩
theorem strsP_no {l : List PV} {x : PV} (hx : x ∈ l) (h : nmW x.wv = false) : unlB (.tup l) = false := by
  rw [← Bool.not_eq_true]
  intro hu
  obtain ⟨z, rfl, hn⟩ := unl_its hu x hx
  have : nmW (PV.str z).wv = nameB z := rfl
  rw [this, nameB_of hn] at h
  cases h
theorem plain_l_due07 (xs : List PV) (perr : PErr → Prop) (post : PV → Prop) (h : psp_l_due07 xs perr post) : (X_l_due07 K).wp (fun _ _ => False) { nx := fun _ => post .non, rt := post } (startE 4 xs) := by
  obtain ⟨x, ts, rfl, hv, hl, hl2, h⟩ := h
  have hz := sizeLine_eq
  obtain ⟨t0, b, e1, e2, e3⟩ := tyN_of hv
  unfold X_l_due07
  walk_at "wq"
  refine ⟨t0, b, e1, e2, ?_⟩
  cases b with
  | false =>
    walk_at "wq"
    have : unlB x = false := by
      cases x with
      | tup l => exact absurd (e3.mpr ⟨l, rfl⟩) (by simp)
      | _ => rfl
    unfold due7 at h
    rw [this] at h
    exact ⟨by omega, h⟩
  | true =>
    obtain ⟨l, rfl⟩ := e3.mp rfl
    have hl' := hl l rfl
    have hvl := (voks_iff l).mp hv
    walk_at "wq"
    refine for_inv (fun i ρ => ∃ s : Sl, ρ = [.val (.tup l), .val (sL ts), s, .no] ∧ ∀ y ∈ l.take i, nmW y.wv = true) ⟨_, rfl, by simp⟩ (fun i y ρ k hx hi hk => ?_) fun ρ hi => ?_
    · obtain ⟨s, rfl, hin⟩ := hi
      obtain ⟨hil, hxe⟩ := List.getElem?_eq_some_iff.mp hx
      have hym : y ∈ l := by rw [← hxe]; exact List.getElem_mem ..
      unfold X_l_due07_b1
      walk_at "wq"
      refine ⟨y, rfl, hvl y hym, ?_⟩
      cases hy : nmW y.wv with
      | false =>
        walk_at "wq"
        unfold due7 at h
        rw [strsP_no hym hy] at h
        exact ⟨by omega, h⟩
      | true =>
        walk_at "wq"
        refine hk _ ⟨_, rfl, fun w hw => ?_⟩
        rw [List.take_add_one, hx] at hw
        rcases List.mem_append.mp hw with hw | hw
        · exact hin w hw
        · simp only [Option.toList, List.mem_singleton] at hw
          rw [hw]; exact hy
    · obtain ⟨s, rfl, hin⟩ := hi
      rw [List.take_length] at hin
      obtain ⟨zs, rfl, hn⟩ := nms_strsP hin
      have hlz : zs.length ≤ 1000 := by rw [List.length_map] at hl'; exact hl'
      have hu : unlB (.tup (zs.map .str)) = decide zs.Nodup := by
        simp only [unlB]
        rw [strsP_of]
        show (decide zs.Nodup && zs.all nameB) = _
        rw [hn, Bool.and_true]
      unfold due7 at h
      rw [hu] at h
      walk_at "wq"
      refine ⟨zs, rfl, by omega, ?_⟩
      rw [List.length_map]
      have hd := dcnt_iff zs
      by_cases nd : zs.Nodup
      · rw [decide_eq_true nd] at h hd
        have hd' := of_decide_eq_true hd
        rw [hd']
        simp only [bne_self_eq_false, ne_eq, not_true_eq_false, decide_false, Bool.false_eq_true, if_false, if_true] at h ⊢
        walk_at "wq"
        refine lc_fm (fun x => if thereP ts x = true then none else some x) (fun x hx k hk => ?_) (by simp only [List.length_map, List.length_nil]; omega) ?_
        · unfold lcStep
          walk_at "wq"
          refine ⟨ts, rfl, hvl x hx, ?_⟩
          cases ht : thereP ts x with
          | true => rw [ht] at hk; simpa [tst] using hk
          | false => rw [ht] at hk; simpa [tst] using hk
        · rw [List.nil_append]
          have hfm := first_of ts (zs.map PV.str)
          generalize hg : (zs.map PV.str).filterMap (fun x => if thereP ts x = true then none else some x) = g at hfm ⊢
          walk_at "wq"
          rw [cutP_to (by decide)] at hfm
          refine ⟨by omega, g, .inl rfl, ?_⟩
          change post (match missP (zs.map PV.str) ts with
            | none => .str "nothing"
            | some y => .tup [.str "name", y, .bl false, .bl true]) at h
          cases hm : missP (zs.map PV.str) ts with
          | none =>
            rw [hm] at hfm h
            cases g with
            | nil => exact h
            | cons a g => simp at hfm
          | some y =>
            rw [hm] at hfm h
            cases g with
            | nil => simp at hfm
            | cons a g =>
              obtain rfl : a = y := by simpa using hfm
              exact ⟨a, atI_nat (j := 0) rfl, by omega, h⟩
      · rw [decide_eq_false nd] at h hd
        have hd' := of_decide_eq_false hd
        rw [decide_eq_false hd']
        exact ⟨by omega, h⟩
theorem len_l_due07 (vs : List V) (H : Hp) (Q : VK) (E : XK) (h : spOf K psp_l_due07 vs H Q E) : vs.length = 2 := spOf_len (fun _ _ _ h => by obtain ⟨_, _, rfl, _⟩ := h; rfl) vs H Q E h
theorem pure_l_due07 (vs : List V) (H : Hp) (Q : VK) (E : XK) (h : spOf K psp_l_due07 vs H Q E) : (X_l_due07 K).rd (fun _ => E0) { nx := fun _ H' => Q .non H', rt := Q } (startN 4 vs) H := SS.run0 _ plain_l_due07 vs H Q E h
theorem mix7 {T BN NN : Addr} (cf : Cf07 K T BN NN) {N1 : Env → Prop} {Q : PV → Prop} (er : PErr) (h : (er = ((BN, []) : PErr) ∧ Q (.tup [.str "names", .bl true])) ∨ ∃ y, er = ((NN, [("name", y)]) : PErr) ∧ Q (.tup [.str "name", y, .bl false, .bl true])) :
    wpMix (fun _ _ => False) { nx := N1, rt := Q } (CL7 K T BN NN) [.no, .no, .no] er := by
  obtain ⟨e1, e2, e3, k1, k2, k3, k4⟩ := cf
  have hz := sizeLine_eq
  rcases h with ⟨rfl, h⟩ | ⟨y, rfl, h⟩
  · refine ⟨true, e1, fun _ a d => ?_, fun z => by cases z⟩
    unfold pendAt penvAt
    walk_at "wq"
    refine ⟨_, true, rfl, k1, ?_⟩
    walk_at "wq"
    exact ⟨_, false, rfl, k2, by omega, h⟩
  · refine ⟨false, e2, fun z => (by cases z), fun _ => ⟨true, e3, fun _ a d => ?_, fun z => by cases z⟩⟩
    unfold pendAt penvAt
    walk_at "wq"
    refine ⟨_, _, rfl, rfl, ?_⟩
    refine ⟨_, false, rfl, by simp, k3, ?_⟩
    refine ⟨_, true, rfl, by simp, k4, ?_⟩
    exact ⟨by omega, h⟩
section
variable {T BN NN : Addr} {ts : List Str} {f : Fo} {x : PV} {N1 N2 : Env → Prop} {Q : PV → Prop}
theorem names7 (cf : Cf07 K T BN NN) (hf : f.nm.Perm ts) (h : Q (due7 ts x)) :
    (unlB x = false → wpMix (fun _ _ => False) { nx := N1, rt := Q } (CL7 K T BN NN) [.no, .no, .no] (BN, [])) ∧
  ∀ zs : List Str, x = sT zs → unlB x = true → (∀ y, missP (zs.map .str) f.nm = some y → wpMix (fun _ _ => False) { nx := N1, rt := Q } (CL7 K T BN NN) [.no, .no, .no] (NN, [("name", y)])) ∧ ((∀ z ∈ zs, z ∈ f.nm) → Q (.str "nothing")) := by
  unfold due7 at h
  refine ⟨fun hu => mix7 cf _ (.inl ⟨rfl, ?_⟩), fun zs e hu => ⟨fun y hm => mix7 cf _ (.inr ⟨y, rfl, ?_⟩), fun hin => ?_⟩⟩
  · rw [hu] at h; exact h
  · rw [hu, if_pos rfl] at h; subst e
    rw [show itsP (sT zs) = zs.map .str from rfl, ← missP_perm hf, hm] at h
    exact h
  · rw [hu, if_pos rfl] at h; subst e
    rw [show itsP (sT zs) = zs.map .str from rfl, ← missP_perm hf] at h
    have hn : missP (zs.map .str) f.nm = none := List.find?_eq_none.mpr fun w hw => by
      obtain ⟨z, hz, rfl⟩ := List.mem_map.mp hw
      simp [thereP, hin z hz]
    rw [hn] at h
    exact h
theorem lam_sk (cf : Cf07 K T BN NN) (hf : f.nm.Perm ts) (nok : NameOk f) (hv : x.vok = true) (hl : ∀ l, x = .tup l → l.length ≤ 1000) (h : Q (due7 ts x)) :
    psp_skeleton_ofN BN NN [f.pv, x] (fun er => wpMix (fun _ _ => False) { nx := N1, rt := Q } (CL7 K T BN NN) [.no, .no, .no] er) (fun _ => (RS7 K).wp (fun _ _ => False) { nx := N2, rt := Q } [.no, .no, .no]) := by
  obtain ⟨a, b⟩ := names7 (N1 := N1) cf hf h
  exact ⟨f, x, rfl, nok, hv, hl, a, fun zs e hu => ⟨(b zs e hu).1, fun hin _ => (b zs e hu).2 hin⟩⟩
theorem lam_ga (cf : Cf07 K T BN NN) (hf : f.nm.Perm ts) (nok : NameOk f) (hv : x.vok = true) (hl : ∀ l, x = .tup l → l.length ≤ 1000) (h : Q (due7 ts x)) :
    psp_gaps_ofN BN NN [f.pv, x] (fun er => wpMix (fun _ _ => False) { nx := N1, rt := Q } (CL7 K T BN NN) [.no, .no, .no] er) (fun _ => (RS7 K).wp (fun _ _ => False) { nx := N2, rt := Q } [.no, .no, .no]) := by
  obtain ⟨a, b⟩ := names7 (N1 := N1) cf hf h
  exact ⟨f, x, rfl, nok, hv, hl, a, fun zs e hu => ⟨(b zs e hu).1, fun hin _ => (b zs e hu).2 hin⟩⟩
end
theorem law07_r4 {T BN NN : Addr} (cf : Cf07 K T BN NN) {ts zs : List Str} {f : Fo} {x : PV} {s5 s6 s7 s8 s9 : Sl} (hf : f.nm.Perm ts) (nok : NameOk f) (hlt : ts.length ≤ 10) (hv : x.vok = true) (hl : ∀ l, x = .tup l → l.length ≤ 1000) {PD : PEnds} (q : PD.rt (.bl true)) : (X_law07_r4 K T BN NN).wp (fun _ _ => False) PD [.no, .val .deck, .val (sL zs), .val (sL ts), .val f.pv, s5, s6, s7, s8, s9, .val x, .no] := by
  have hz := sizeLine_eq
  unfold X_law07_r4
  walk_at "wq"
  refine ⟨x, ts, rfl, hv, hl, by omega, ?_⟩
  refine show7 unl_its ?_
  walk_at "wq"
  refine ⟨by decide, by decide, ?_⟩
  refine for_inv (fun t ρ => ∃ s8 : Sl, ρ = [.no, .val .deck, .val (sL zs), .val (sL ts), .val f.pv, s5, s6, s7, s8, s9, .val x, .val (.str (due7 ts x).pdX.shown)]) ⟨_, rfl⟩ ?_ ?_
  · rintro t y ρ k hx ⟨s8, rfl⟩ hk
    unfold X_law07_b2
    walk_at "wq"
    simp only [List.map_cons, List.map_nil, seen_val]
    walk_at "wq"
    refine ⟨by decide, lam_sk cf hf nok hv hl ?_⟩
    refine show7 unl_its ?_
    walk_at "wq"
    refine ⟨by decide, lam_ga cf hf nok hv hl ?_⟩
    refine show7 unl_its ?_
    walk_at "wq"
    exact hk _ ⟨_, rfl⟩
  · rintro ρ ⟨s8, rfl⟩
    walk_at "wq"
    exact q
theorem at_in {l : List PV} {j : Int} (h0 : 0 ≤ j) (h1 : j < l.length) : ∃ u ∈ l, L2.atI l j = some u := by
  have h2 : j.toNat < l.length := by omega
  refine ⟨l[j.toNat], List.getElem_mem .., ?_⟩
  have := atI_nat (xs := l) (j := j.toNat) (v := l[j.toNat]) (List.getElem?_eq_getElem h2)
  rw [Int.toNat_of_nonneg h0] at this
  exact this
section
variable {T BN NN : Addr} {zs ts : List Str} {f : Fo} {s5 : Sl} {r : Int} {l : List PV} {k : Nat} {y : PV} {PD : PEnds}
def I7 (zs ts : List Str) (f : Fo) (s5 : Sl) (r : Int) (l : List PV) (s8 s9 : Sl) : Env := [.no, .val .deck, .val (sL zs), .val (sL ts), .val f.pv, s5, .val (.int r), .own l, s8, s9, .no, .no]
theorem b1_r1 (hl : l.length ≤ 10) (q : PD.nx (I7 zs ts f s5 r (l ++ [y]) (.val (.int k)) (.val y))) : (X_law07_r1 K T BN NN).wp (fun _ _ => False) PD (I7 zs ts f s5 r l (.val (.int k)) (.val y)) := by
  have hz := sizeLine_eq
  unfold X_law07_r1
  unfold I7 at q ⊢
  walk_at "wq"
  exact ⟨by omega, q⟩
theorem b1_r2 (hl : l.length ≤ 10) (hts : ts.length ≤ 10) (hn : ∀ z ∈ ts, IsName z) (hy : y.vok = true) (q : ∀ y : PV, y.vok = true → PD.nx (I7 zs ts f s5 r (l ++ [y]) (.val (.int k)) (.val y))) : (X_law07_r2 K T BN NN).wp (fun _ _ => False) PD (I7 zs ts f s5 r l (.val (.int k)) (.val y)) := by
  have hz := sizeLine_eq
  have g1 := fun (y : PV) (hy : y.vok = true) => b1_r1 (K := K) (T := T) (BN := BN) (NN := NN) hl (q y hy)
  unfold X_law07_r2
  unfold I7 at g1 ⊢
  unfold sL at g1 ⊢
  walk_at "wq"
  refine ⟨2, rfl, by decide, by decide, fun d d0 d2 => ?_⟩
  walk_at "wq"
  split
  · refine ⟨by omega, _, .inl rfl, ?_⟩
    split
    · rename_i h
      have hne : 0 < (ts.map PV.str).length := by
        rw [List.length_map]
        cases ts with
        | nil => simp at h
        | cons => simp
      obtain ⟨u, hu, e⟩ := at_in (l := ts.map PV.str) (j := (k : Int) % ((ts.map PV.str).length : Int)) (Int.emod_nonneg _ (by omega)) (Int.emod_lt_of_pos _ (by omega))
      refine ⟨by omega, u, e, g1 u ?_⟩
      obtain ⟨z, hz2, rfl⟩ := List.mem_map.mp hu
      have h8 := (hn z hz2).eight
      exact decide_eq_true (by omega)
    · exact g1 y hy
  · exact g1 y hy
theorem b1_r3 (hl : l.length ≤ 10) (hts : ts.length ≤ 10) (hn : ∀ z ∈ ts, IsName z) (hr1 : 1 ≤ r) (hr2 : r ≤ 9) (hy : y.vok = true) (q : ∀ y : PV, y.vok = true → PD.nx (I7 zs ts f s5 r (l ++ [y]) (.val (.int k)) (.val y))) : (X_law07_r3 K T BN NN).wp (fun _ _ => False) PD (I7 zs ts f s5 r l (.val (.int k)) (.val y)) := by
  have hz := sizeLine_eq
  have g1 := fun (y : PV) (hy : y.vok = true) => b1_r2 (K := K) (T := T) (BN := BN) (NN := NN) hl hts hn hy q
  unfold X_law07_r3
  unfold I7 at g1 ⊢
  walk_at "wq"
  refine ⟨r, rfl, by omega, by omega, fun d d0 d2 => ?_⟩
  walk_at "wq"
  split
  · exact ⟨rfl, fun y hy => g1 y hy.vok⟩
  · exact g1 y hy
theorem law07_b1 {s9 : Sl} (hl : l.length ≤ 10) (hzs : zs.length = 10) (hzn : ∀ z ∈ zs, IsName z) (hts : ts.length ≤ 10) (hn : ∀ z ∈ ts, IsName z) (hr1 : 1 ≤ r) (hr2 : r ≤ 9) (hk : k < 10) (q : ∀ y : PV, y.vok = true → PD.nx (I7 zs ts f s5 r (l ++ [y]) (.val (.int k)) (.val y))) : (X_law07_b1 K T BN NN).wp (fun _ _ => False) PD (I7 zs ts f s5 r l (.val (.int k)) s9) := by
  have hz := sizeLine_eq
  have g1 := fun (y : PV) (hy : y.vok = true) => b1_r3 (K := K) (T := T) (BN := BN) (NN := NN) hl hts hn hr1 hr2 hy q
  have vz : ∀ u ∈ zs.map PV.str, u.vok = true := fun u hu => by
    obtain ⟨z, hz2, rfl⟩ := List.mem_map.mp hu
    have h8 := (hzn z hz2).eight
    exact decide_eq_true (by omega)
  unfold X_law07_b1
  unfold I7 at g1 ⊢
  unfold sL at g1 ⊢
  walk_at "wq"
  obtain ⟨u, hu, e⟩ := at_in (l := zs.map PV.str) (j := ((k : Int) * 3 + r) % 10) (Int.emod_nonneg _ (by omega)) (by rw [List.length_map, hzs]; exact Int.emod_lt_of_pos _ (by omega))
  refine ⟨by first | decide | (unfold CMul; omega), by decide, u, e, ?_⟩
  walk_at "wq"
  refine ⟨3, rfl, by decide, by decide, fun d d0 d2 => ?_⟩
  walk_at "wq"
  split
  · refine ⟨_, rfl, fun e => ?_, ?_, fun y hy => g1 y (vz y hy)⟩
    · have := congrArg List.length e
      rw [List.length_map, List.length_nil] at this; omega
    · rw [List.length_map]; omega
  · exact g1 u (vz u hu)
end
theorem plain_law07 {T BN NN : Addr} (cf : Cf07 K T BN NN) : (X_law07 K T BN NN).wp (fun _ _ => False) { nx := fun _ => False, rt := fun x => x = .bl true } ((List.replicate 12 .no).set 1 (.val .deck)) := by
  have hz := sizeLine_eq
  unfold X_law07
  walk_at "wq"
  refine ⟨10, rfl, by decide, by decide, fun zs hzl nd hn => ?_⟩
  refine ⟨9, rfl, by decide, by decide, fun i i0 i9 => ?_⟩
  unfold sL
  walk_at "wq"
  rw [cutP_to i0, ← List.map_take]
  obtain ⟨ts, hts⟩ : ∃ ts, ts = zs.take i.toNat := ⟨_, rfl⟩
  rw [← hts]
  have ndt : ts.Nodup := hts ▸ nd.sublist (List.take_sublist ..)
  have hnt : ∀ z ∈ ts, IsName z := fun z hm => hn z (List.mem_of_mem_take (hts ▸ hm))
  have hlt : ts.length ≤ 10 := by rw [hts, List.length_take]; omega
  refine ⟨ts, rfl, ndt, hnt, by omega, fun f hf => ?_⟩
  have nok : NameOk f := ⟨hf.nodup_iff.mpr ndt, fun z q => hnt z (hf.mem_iff.mp q), by rw [hf.length_eq]; omega⟩
  refine ⟨by decide, 8, rfl, by decide, by decide, fun w w0 w8 => ?_⟩
  refine ⟨9, rfl, by decide, by decide, fun d d0 d9 => ?_⟩
  walk_at "wq"
  refine ⟨by omega, 7, rfl, by decide, by decide, fun m m0 m7 => ?_⟩
  walk_at "wq"
  refine ⟨by omega, by omega, ?_⟩
  refine for_inv (fun t ρ => ∃ (l : List PV) (s8 s9 : Sl), l.length = t ∧ (∀ x ∈ l, x.vok = true) ∧ ρ = I7 zs ts f (.val (.int w)) (1 + d) l s8 s9) ⟨[], _, _, rfl, by simp, rfl⟩ ?_ ?_
  · rintro t x ρ k hx ⟨l, s8, s9, hl, hv, rfl⟩ hk
    obtain ⟨htl, hxe⟩ := List.getElem?_eq_some_iff.mp hx
    rw [List.length_map, List.length_range] at htl
    rw [List.getElem_map, List.getElem_range] at hxe
    subst hxe
    exact law07_b1 (s9 := s9) (by omega) (by omega) hn hlt hnt (by omega) (by omega) (by omega) fun y hy => hk _ ⟨l ++ [y], _, _, by rw [List.length_append, hl]; rfl, fun u hu => by
      rcases List.mem_append.mp hu with hu | hu
      · exact hv u hu
      · rw [List.mem_singleton.mp hu]; exact hy, rfl⟩
  · rintro ρ ⟨l, s8, s9, hl, hv, rfl⟩
    rw [List.length_map, List.length_range] at hl
    have go : ∀ (x : PV) (s7 : Sl), x.vok = true → (∀ l, x = .tup l → l.length ≤ 1000) → (X_law07_r4 K T BN NN).wp (fun _ _ => False) { nx := fun _ => False, rt := fun x => x = .bl true } [.no, .val .deck, .val (sL zs), .val (sL ts), .val f.pv, .val (.int w), .val (.int (1 + d)), s7, s8, s9, .val x, .no] := fun x s7 hx hl => law07_r4 cf hf nok hlt hx hl rfl
    unfold sL at go
    unfold I7 sL
    walk_at "wq"
    have h1 : (PV.tup l).vok = true := (voks_iff l).mpr hv
    have h2 : ∀ l', PV.tup l = .tup l' → l'.length ≤ 1000 := fun l' e => by cases e; omega
    split
    · refine ⟨by omega, _, rfl, by simp, by simp only [List.length_cons, List.length_nil]; omega, fun y hy => ?_⟩
      simp only [List.mem_cons, List.not_mem_nil, or_false] at hy
      rcases hy with rfl | rfl | rfl | rfl | rfl | rfl <;> exact go _ _ (by first | rfl | decide +kernel) (fun l e => by cases e)
    · exact go _ _ h1 h2
theorem pure_law07 {T BN NN : Addr} (cf : Cf07 K T BN NN) (vs : List V) (H : Hp) (Q : VK) (E : XK) (h : sp_lawL K vs H Q E) : lawT K 1 (X_law07 K T BN NN) { nx := fun _ H' => Q .non H', rt := Q } (startN 12 vs) H := law_runL (by decide) (by decide) (plain_law07 cf) vs H Q E h
end
end Tw
set_option Elab.async false
set_option linter.all false
set_option maxRecDepth 100000
set_option maxHeartbeats 4000000
/-! the end of a law that makes lambdas and shows data: one table -/
namespace Tw
open PySem PySem.Spec PyProof.Rows L2
abbrev tabO : Obj := { cls := .none, data := .fields #[] }
section
variable {P0 : Program} {w : World} {K : PySem.W.Frag} {mg mb : Str → Option Value} {k : Nat} {fa a c P : Addr} {fd : FuncData} {x : Str} {sp : Sp} {s : Shared} {vs : List Value} {ns : List Int}
theorem lawG_atT (KX : K.In s.heap) (hns : s.heap.Ns mainGlobals mg) (hb : s.heap.Ns builtinsNs mb) (hbb : ∀ x : Str, x ≠ "__name__" → mb x = bootBuiltins x) (hlim : s.heap.NoLimit) (hg : s.gens = #[])
    (hT : s.heap.get? P = some tabO) (nT : K.lookup P = none) (hC : PySem.W.CodeHd s.heap c P)
    (hbm : ∃ (bm : Addr) (ob : Obj), mg "__builtins__" = some (.ref bm) ∧ bm ≠ builtinsNs ∧ s.heap.get? bm = some ob ∧ ob.cls = .type "module" ∧ ob.dict = some builtinsNs ∧ ob.data = .plain)
    (ha : s.heap.get? a = some (scriptO vs)) (hr : Room k callerA)
    (F : ∀ base : Heap, K.In base → base.Ns mainGlobals mg → LamX.TabB base mg c P → FnG P0 w K mg base CX0 k fa fd [x] sp) (hbind : ∀ (s : Shared) (u : Value), BindsTo s fd ⟨[u], []⟩ [(x, u)])
    (H : Hp) (hP : H P = some (.tbl #[])) (only : ∀ b u, H b = some u → (b = a ∧ (∃ o xs, u = .frz o (.lst xs)) ∧ K.lookup a = none) ∨ (b = P ∧ u = .tbl #[])) (hok : HOk P0 w H s.heap) (hsp : sp [.ref a] H (fun v _ => v = .bl true) fun _ _ _ => False) :
    codeAny (model P0 w) callerA (.call (.ref fa) ⟨[.ref a], []⟩) (LawEnd s) s := by
  have free : ∀ {b o}, s.heap.get? b = some o → o ≠ scriptO vs → o ≠ tabO → H b = none := fun {b o} e ne nt => by
    cases q : H b with
    | none => rfl
    | some u =>
      rcases only b u q with ⟨rfl, _⟩ | ⟨rfl, _⟩
      · rw [ha] at e; exact absurd (Option.some.inj e).symm ne
      · rw [hT] at e; exact absurd (Option.some.inj e).symm nt
  have nsH : ∀ {b m}, s.heap.Ns b m → (hidT s.heap H).Ns b m := fun {b m} ⟨o, es, ep, e, d, r⟩ => ⟨o, es, ep, hidT_get e (free e (fun z => by rw [z] at d; cases d) fun z => by rw [z] at d; cases d), d, r⟩
  have KH : K.In (hidT s.heap H) := fun b o e => by
    refine hidT_get (KX b o e) ?_
    cases q : H b with
    | none => rfl
    | some u =>
      rcases only b u q with ⟨rfl, _, n⟩ | ⟨rfl, _⟩
      · rw [n] at e; cases e
      · rw [nT] at e; cases e
  have gP : mainGlobals ≠ P := fun z => by
    obtain ⟨o, es, ep, e, d, _⟩ := hns
    rw [z, hT] at e; cases e; cases d
  have TB : LamX.TabB (hidT s.heap H) mg c P := by
    refine ⟨?_, ?_, gP⟩
    · obtain ⟨o, us, file, tf, flags, tg, inF, text, tt, e1, r1, r2, r3, rest⟩ := hC
      exact ⟨o, us, file, tf, flags, tg, inF, text, tt, hidT_get e1 (free e1 (fun z => by rw [z] at r2; cases r2) fun z => by rw [z] at r2; cases r2; simp at r3), r1, r2, r3, rest⟩
    · obtain ⟨bm, ob, b1, b2, b3, b4, b5, b6⟩ := hbm
      refine ⟨bm, ob, b1, b2, fun q => ?_, fun q => ?_, hidT_get b3 (free b3 (fun z => by rw [z] at b6; cases b6) fun z => by rw [z] at b6; cases b6), b4, b5, b6⟩
      · obtain ⟨o, es, ep, e, d, _⟩ := hns
        rw [q, e] at b3; cases b3; rw [d] at b6; cases b6
      · rw [q, hT] at b3; cases b3; cases b6
  obtain ⟨mc, l1, l2⟩ := hlim
  have e0 : Env0 P0 w K mg (hidT s.heap H) callerA [] s H := ⟨rfl, ⟨KH, nsH hns, ⟨mb, nsH hb, hbb⟩, mc, nsH l1, l2⟩, fun b o e => of_hidT e, Nat.le_of_eq (hidT_size _ _), trivial, (fun b hb => by cases hb), hok, .of_eq hg⟩
  refine codeAny_mono ((F _ KH (nsH hns) TB).run callerA hr rfl [] s H ⟨[.ref a], []⟩ [.ref a] [.ref a] _ _ e0 (hbind s (.ref a)) (.cons rfl .nil) hsp) fun r s' h => ?_
  rcases r with e | (_ | _ | _ | u)
  · exact False.elim h
  · exact False.elim h
  · exact False.elim h
  · exact False.elim h
  · obtain ⟨v, H', os, bare, un, hok', rv, q⟩ := h
    obtain rfl : v = .bl true := q
    obtain rfl : u = Value.bool true := rv
    obtain ⟨more, hm⟩ := un.tbls P #[] hP
    have hm1 : H' P = some (.tbl more) := by simpa using hm
    have hm2 : s'.heap.get? P = some { cls := .none, data := .fields more } := hok' P _ hm1
    have old : ∀ b o, b ≠ P → s.heap.get? b = some o → s'.heap.get? b = some o := fun b o nb e => by
      cases q : H b with
      | none => exact un.keep b o e q (fun z => by cases z) (fun z => by cases z)
      | some u =>
        rcases only b u q with ⟨_, ⟨ob, xs, rfl⟩, _⟩ | ⟨h, _⟩
        · obtain ⟨e1, _⟩ := hok b _ q
          obtain ⟨e2, _⟩ := hok' b _ (un.frzs b ob _ q)
          rw [e] at e1; cases e1
          exact e2
        · exact absurd h nb
    refine ⟨rfl, ⟨fun b o e => ?_, fun b o e => ?_⟩, os, bare⟩
    · by_cases hbP : b = P
      · subst hbP
        rw [hT] at e; cases e
        exact .inr (.inl ⟨(hC.tab hT).isCodeTable, rfl, #[], more, rfl, by rw [Array.empty_append]; exact hm2⟩)
      · exact .inl (old b o hbP e)
    · by_cases hbP : b = P
      · subst hbP; exact ⟨_, hm2⟩
      · exact ⟨o, old b o hbP e⟩
/-- the script is an object of the module, or it is new -/
theorem lawG_callT (KX : K.In s.heap) (hns : s.heap.Ns mainGlobals mg) (hb : s.heap.Ns builtinsNs mb) (hbb : ∀ x : Str, x ≠ "__name__" → mb x = bootBuiltins x) (hlim : s.heap.NoLimit) (hg : s.gens = #[])
    (hT : s.heap.get? P = some tabO) (nT : K.lookup P = none) (hC : PySem.W.CodeHd s.heap c P)
    (hbm : ∃ (bm : Addr) (ob : Obj), mg "__builtins__" = some (.ref bm) ∧ bm ≠ builtinsNs ∧ s.heap.get? bm = some ob ∧ ob.cls = .type "module" ∧ ob.dict = some builtinsNs ∧ ob.data = .plain)
    (ha : s.heap.get? a = some (scriptO vs)) (hi : IntsAre vs ns) (hl : ns.length ≤ sizeLine) (hr : Room k callerA)
    (F : ∀ base : Heap, K.In base → base.Ns mainGlobals mg → LamX.TabB base mg c P → FnG P0 w K mg base CX0 k fa fd [x] sp) (hbind : ∀ (s : Shared) (u : Value), BindsTo s fd ⟨[u], []⟩ [(x, u)])
    (hsp : ∀ H : Hp, H P = some (.tbl #[]) → SqL K H a (ns.map V.int) → sp [.ref a] H (fun v _ => v = .bl true) fun _ _ _ => False) :
    codeAny (model P0 w) callerA (.call (.ref fa) ⟨[.ref a], []⟩) (LawEnd s) s := by
  have rv := vals_ints hi
  have lenV := hi.length
  have aP : a ≠ P := fun z => by
    rw [z, hT] at ha; cases ha
  cases hk : K.lookup a with
  | some o =>
    have e := KX a o hk
    rw [ha] at e
    cases e
    refine lawG_atT KX hns hb hbb hlim hg hT nT hC hbm ha hr F hbind (fun b => if b = P then some (.tbl #[]) else none) (if_pos rfl) (fun b u z => ?_) (fun b u z => ?_) (hsp _ (if_pos rfl) (.inr ⟨_, vs.toArray, _, hk, rfl, rfl, rfl, ?_, by simpa using rv⟩))
    · by_cases e : b = P
      · rw [if_pos e] at z; cases z; exact .inr ⟨e, rfl⟩
      · rw [if_neg e] at z; cases z
    · by_cases e : b = P
      · subst e
        have z2 := (if_pos rfl).symm.trans z
        cases z2
        exact hT
      · have z2 := (if_neg e).symm.trans z
        cases z2
    · rw [List.size_toArray, lenV]; exact hl
  | none =>
    refine lawG_atT KX hns hb hbb hlim hg hT nT hC hbm ha hr F hbind (fun b => if b = a then some (.frz (scriptO vs) (.lst (ns.map V.int))) else if b = P then some (.tbl #[]) else none) ((if_neg (Ne.symm aP)).trans (if_pos rfl)) (fun b u z => ?_) (fun b u z => ?_) (hsp _ ((if_neg (Ne.symm aP)).trans (if_pos rfl)) (.inl (.inr ⟨scriptO vs, if_pos rfl⟩)))
    · by_cases e : b = a
      · rw [if_pos e] at z; cases z
        exact .inl ⟨e, ⟨_, _, rfl⟩, hk⟩
      · rw [if_neg e] at z
        by_cases e : b = P
        · rw [if_pos e] at z; cases z; exact .inr ⟨e, rfl⟩
        · rw [if_neg e] at z; cases z
    · by_cases e : b = a
      · subst e
        have z2 := (if_pos rfl).symm.trans z
        cases z2
        exact ⟨ha, by rw [List.length_map]; exact hl, vs, _, rv, ha⟩
      · have z2 := (if_neg e).symm.trans z
        by_cases e : b = P
        · subst e
          have z3 := (if_pos rfl).symm.trans z2
          cases z3
          exact hT
        · have z3 := (if_neg e).symm.trans z2
          cases z3
end
section
variable {P : Program} {w : World} {K : PySem.W.Frag} {mg : Str → Option Value} {base : Heap}
/-- fnG_of, the def's code known -/
theorem fnG_ofC {CX : CXT} {x qual : Str} {params : Arguments} {body : List Stmt} {scope : Scope} {dvs : List V} {kws : List (Str × V)} {f c : Addr} {fd : FuncData} {N ps : List Str} {k : Nat} {sp : Sp} (F : FunD K x qual params body scope dvs kws f fd) (hc : fd.code = .ref c) (S : FnScope N ps scope)
    (len : ∀ vs H Q E, sp vs H Q E → vs.length = ps.length)
    (hbody : ∀ (A : Around) (outer : List PySem.Env) (s : Shared) (H : Hp) (vs : List V) (Q : VK) (E : XK), Room k (A.deeper (envOfC qual scope s.heap.objs.size f (.ref c))) → Quiet (A.deeper (envOfC qual scope s.heap.objs.size f (.ref c))) → sp vs H Q E →
      ∃ t, PSs (cxOf CX P w K mg base N qual scope f (.ref c) A outer s H E) body t ∧ t { nx := fun _ H' => Q .non H', rt := Q } (start N vs) H) : FnG P w K mg base CX (k + 1) f fd ps sp := by
  obtain ⟨oc, od, dV, kV, doc, pm, an, cdv, ct, osl, rfl, lk, hcd, _, _⟩ := F.ex
  obtain rfl : cdv = .ref c := hc
  refine ⟨len, fun A hr hq outer s H args us vs Q E e0 hb r hsp => ?_⟩
  have old : ∀ b o, base.get? b = some o → s.heap.get? b = some o := fun b o e => (e0.bs b o e).1
  have KX := e0.mod.kin.keeps old
  refine codeAny_call_function hr.depth (KX _ _ lk) rfl S.co S.gen rfl (PySem.W.codeRec_of KX hcd) (hb _ _ _ _ ?_)
  refine wpAny_newFunctionEnv_cells S.kind (fun ⟨n, v⟩ hy => ?_) fun env he s1 x1 => ?_
  · rcases S.par n (List.of_mem_zip hy).1 with q | q
    · exact .inl q
    · exact .inr ⟨q, PySem.W.cellsFrom_some _ _ _ (.inl q)⟩
  · subst he
    refine ⟨(e0.mod.nolimit.keeps old).keeps x1.toInCall.keep, codeAny_func ?_⟩
    obtain ⟨t, ht, hw⟩ := hbody A outer s H vs Q E (hr.deeper _) (by show A.guards = some []; exact hq) hsp
    have I := inv_start (E := E) (CX := CX) (f := f) (cd := .ref c) (qual := qual) S hr.hd e0 (len _ _ _ _ hsp) r x1
    refine wpAny_mono (ht.run [] s1 (start N vs) H _ I hw) (fun fl s' hs => ?_) fun e s' hs => hs
    rcases fl with _ | _ | _ | u
    · obtain ⟨σ', H', J, q⟩ := hs
      exact ⟨.non, H', J.os, J.bare, J.base, J.hok, rfl, q⟩
    · obtain ⟨_, _, _, q⟩ := hs
      exact False.elim q
    · obtain ⟨_, _, _, q⟩ := hs
      exact False.elim q
    · obtain ⟨v, σ', H', J, rv, q⟩ := hs
      exact ⟨v, H', J.os, J.bare, J.base, J.hok, rv, q⟩
/-- the law's code, as the head knows it -/
theorem law_code {x qual : Str} {params : Arguments} {body : List Stmt} {scope : Scope} {dvs : List V} {kws : List (Str × V)} {fd : FuncData} (F : FunD K x qual params body scope dvs kws (He.ga K "law") fd) : fd.code = .ref (He.cT K ("law", none)).1 := by
  obtain ⟨oc, od, dV, kV, doc, pm, an, cdv, ct, osl, rfl, lk, hcd, _, _⟩ := F.ex
  obtain ⟨c, rfl⟩ := He.codeIn_ref hcd
  have : He.codeOf K ("law", none) = c := He.codeOf_eq (p := ("law", none)) lk rfl
  show Value.ref c = .ref (He.codeOf K ("law", none))
  rw [this]
end
/-- a law that makes lambdas and shows data -/
theorem walk_ofTG {l : PySem.W.OpenLaw} {n k : Nat} {q : Program} {loose : List Str} {XP : (Str → Option Value) → Heap → Prop} {YP : World → Heap → Prop} {d : DefRec} {x : Str} (hn : l.most = some n) (hn2 : n ≤ sizeLine) (hdf : d.params.defaults = []) (hr : Room k callerA)
    (F : ∀ (w : World) (mg : Str → Option Value) (fa : Addr) (h : Heap), YP w h → h.Ns mainGlobals mg → mg d.name = some (.ref fa) →
      ∃ (K : PySem.W.Frag) (fd : FuncData) (sp : Sp) (c P : Addr), K.In h ∧ h.get? P = some tabO ∧ K.lookup P = none ∧ PySem.W.CodeHd h c P ∧ (∀ (s : Shared) (u : Value), BindsTo s fd ⟨[u], []⟩ [(x, u)]) ∧ (∀ (H : Hp) (a : Addr) (ns : List Int), ns.length ≤ n → H P = some (.tbl #[]) → SqL K H a (ns.map V.int) → sp [.ref a] H (fun v _ => v = .bl true) fun _ _ _ => False) ∧
        ∀ base : Heap, K.In base → base.Ns mainGlobals mg → LamX.TabB base mg c P → FnG l.prog w K mg base CX0 k fa fd [x] sp) : PySem.W.WalkO q loose XP YP l.row.toRowW d [] (fun f vs => PySem.call f vs) := by
  refine Att.attach_callB hn hdf fun w s₀ s₁ mg mb fa o pm cd doc a vs ns G Y ho hd hcd hmg hobj hints hlen hbits hg => ?_
  obtain ⟨K, fd, sp, c, P, KX, hT, nT, hC, hb, hsp, hF⟩ := F w mg fa _ Y G.T.g hmg
  exact lawG_callT KX G.T.g G.T.b G.T.builtins G.T.nolimit hg hT nT hC G.T.bmain hobj hints (Nat.le_trans hlen hn2) hr hF hb fun H hP hS => hsp H a ns hlen hP hS
end Tw
set_option Elab.async false
set_option linter.all false
set_option maxRecDepth 100000
set_option maxHeartbeats 0
namespace TwLaw
open PySem PySem.Spec PyProof.Rows L2 Tw
def top (i : Nat) : Stmt := PySem.Challenge.pw_twigscripts_k07_names_for_a_skeleton.main.body.getD i (.Pass ⟨0, 0, 0, 0⟩)
abbrev s_is_name : Stmt := top 6
abbrev s_are_unlike_names : Stmt := top 7
abbrev s_row_of : Stmt := top 9
abbrev s_unchecked_wood : Stmt := top 10
abbrev s_parents_of : Stmt := top 11
abbrev s_u_check_there : Stmt := top 12
abbrev s_u_check_names : Stmt := top 15
abbrev s_skeleton_of : Stmt := top 13
abbrev s_gaps_of : Stmt := top 14
abbrev s_l_deck : Stmt := top 17
abbrev s_l_wood_of : Stmt := top 18
abbrev s_l_draw : Stmt := top 19
abbrev s_l_wood : Stmt := top 20
abbrev s_l_name : Stmt := top 21
abbrev s_l_names : Stmt := top 22
abbrev s_l_pick : Stmt := top 23
abbrev s_l_odd : Stmt := top 24
abbrev s_l_is_name : Stmt := top 25
abbrev s_l_refused : Stmt := top 26
abbrev s_l_due : Stmt := top 27
abbrev s_law : Stmt := top 28
def inCls (s : Stmt) (i : Nat) : Stmt := match s with
  | .ClassDef _ _ _ b _ _ _ _ _ _ _ => b.getD i (.Pass ⟨0, 0, 0, 0⟩)
  | _ => .Pass ⟨0, 0, 0, 0⟩
abbrev s_NoName_init : Stmt := inCls (top 3) 0
section
variable {P : Program} {w : World} {K : PySem.W.Frag} [Tbs K] {mg : Str → Option Value} {base : Heap}
abbrev N_NoName_init : List Str := ["self", "name"]
theorem sc_NoName_init : FnScope N_NoName_init ["self", "name"] (defScope s_NoName_init) := ⟨rfl, rfl, rfl, by decide +kernel, rfl, by decide +kernel, by decide +kernel⟩
theorem ok_NoName_init {fI : Addr} {fd : FuncData} (F : FunD K "__init__" "NoName.__init__" (defArgs s_NoName_init) (defBody s_NoName_init) (defScope s_NoName_init) [] [] fI fd) {C : Addr} : FnOk P w K mg base CX0 1 fI fd ["self", "name"] (sp_initG1 K true C "name") := by
  refine F.ok (k := 0) sc_NoName_init len_initG1 (fun cdv A outer s H vs Q E hr h => ⟨t_initG1 K true "name", PSs.nox ?_, by rw [start_n (n := 2) rfl]; exact pure_initG1 vs H Q E h⟩)
  have nd := sc_NoName_init.nd
  exact (pss_one (ps_osg (baseOf true) (pv 0) (pv 1)))
abbrev N_is_name : List Str := ["value"]
theorem sc_is_name : FnScope N_is_name ["value"] (defScope s_is_name) := ⟨rfl, rfl, rfl, by decide +kernel, rfl, by decide +kernel, by decide +kernel⟩
theorem ok_is_name (Dd : Df K mg "is_name" s_is_name) (n_isinstance : mg "isinstance" = none) (n_str : mg "str" = none) (n_len : mg "len" = none) {t__LONGEST : Tok} (g__LONGEST : mg "_LONGEST" = some (.int 8 t__LONGEST)) : Cal P w K mg base CX0 "is_name" ["value"] 1 (sp_is_name K) := by
  refine Dd.cal (k := 0) (N := N_is_name) sc_is_name (fun _ _ _ _ _ _ us hl => match us, hl with | [_], _ => rfl) len_is_name (fun f cdv A outer s H vs Q E hr h => ⟨t_is_name K, PSs.nox ?_, by rw [start_n (n := 1) rfl]; exact pure_is_name vs H Q E h⟩)
  have nd := sc_is_name.nd
  exact (pss_cons (ps_if (PW.pt (pw_or (pt_not (pt_val (pe_isiB n_isinstance n_str (pv 0)))) (pw_or1 (pt_cmpR op_gt (pe_callB call_len_str (by rfl) n_len (by decide +kernel) (pa_cons (pv 0) pa_nil)) (pe_glob (by rfl) g__LONGEST ⟨_, rfl⟩) (nomark _))))) (pss_one (ps_ret pe_bl)) pss_nil)
      (pss_one (ps_ret (pe_and (pe_m0 PySem.F.slot_str_isascii PySem.F.type_str_isascii mt_isascii (pv 0)) (pe_and (pe_m0 PySem.F.slot_str_isalpha PySem.F.type_str_isalpha mt_isalpha (pv 0)) (pe_one (pe_m0 PySem.F.slot_str_islower PySem.F.type_str_islower mt_islower (pv 0))))))))
abbrev N_are_unlike_names : List Str := ["value", "item"]
theorem sc_are_unlike_names : FnScope N_are_unlike_names ["value"] (defScope s_are_unlike_names) := ⟨rfl, rfl, rfl, by decide +kernel, rfl, by decide +kernel, by decide +kernel⟩
theorem ok_are_unlike_names (Dd : Df K mg "are_unlike_names" s_are_unlike_names) (n_isinstance : mg "isinstance" = none) (n_tuple : mg "tuple" = none) (n_all : mg "all" = none) (n_len : mg "len" = none) (n_set : mg "set" = none) (C_is_name : Cal P w K mg base CX0 "is_name" ["value"] 1 (sp_is_name K)) : Cal P w K mg base CX0 "are_unlike_names" ["value"] 2 (spOf K psp_are_unlikeA) := by
  refine Dd.cal (k := 1) (N := N_are_unlike_names) sc_are_unlike_names (fun _ _ _ _ _ _ us hl => match us, hl with | [_], _ => rfl) len_are_unlike_namesA (fun f cdv A outer s H vs Q E hr h => ⟨(X_are_unlike_names K).rd (fun _ => E0), PSs.nox ?_, by rw [start_n (n := 2) rfl]; exact pure_are_unlike_namesA vs H Q E h⟩)
  have nd := sc_are_unlike_names.nd
  exact (show PSs _ _ (tSeq (tIfS (tOr (tNot (tB (tIsi K "tuple" (tVar 0)))) (tNot (tB (tCB (rAll K) (tCons (tLc (iTup K (tVar 0)) (gName 1) tYes (tCall (sp_is_name K) [] E0 (tCons (tVar 1) tNil)) [1]) tNil))))) (tRet (tC (.bl false))) tNext)
  (tRet (tOp rEq (tLenSetT K (tVar 0)) (tCB (rLenSeq K) (tCons (tVar 0) tNil))))) from (pss_cons (ps_if (PW.pt (pw_or (pt_not (pt_val (pe_isiB n_isinstance n_tuple (pv 0)))) (pw_or1 (pt_not (pt_val (pe_callB (cr_all (by rfl)) (by rfl) n_all (by decide +kernel) (pa_cons (pe_lc (own := [("item", 1)]) (g := gName 1) (by rfl) nd (pi_tup (pv 0)) (blkOk_by (own := [("item", 1)]) (N := N_are_unlike_names) (sc := defScope s_are_unlike_names) (by decide +kernel)) (fun _ _ _ _ _ => pg_name (i := 1) nd rfl (Or.inl rfl)) (fun _ _ _ _ _ => pts_nil) (fun _ _ _ _ _ => (pe_cal C_is_name (hr.mono (by omega)) (by rfl) pass0 (pa_cons (pv 1) pa_nil)))) pa_nil))))))) (pss_one (ps_ret pe_bl)) pss_nil)
      (pss_one (ps_ret (pe_cmpR op_eq (pe_lenSetT n_len n_set (pv 0)) (pe_callB call_len_seq (by rfl) n_len (by decide +kernel) (pa_cons (pv 0) pa_nil)) (nomark _))))))
abbrev N_row_of : List Str := ["wood", "row", "todo", "item", "name", "inside"]
theorem sc_row_of : FnScope N_row_of ["wood"] (defScope s_row_of) := ⟨rfl, rfl, rfl, by decide +kernel, rfl, by decide +kernel, by decide +kernel⟩
theorem ok_row_of (Dd : Df K mg "row_of" s_row_of) (n_list : mg "list" = none) (n_isinstance : mg "isinstance" = none) (n_str : mg "str" = none) (n_tuple : mg "tuple" = none) : Cal P w K mg base CX0 "row_of" ["wood"] 1 (sp_row_of K) := by
  refine Dd.cal (k := 0) (N := N_row_of) sc_row_of (fun _ _ _ _ _ _ us hl => match us, hl with | [_], _ => rfl) len_row_of (fun f cdv A outer s H vs Q E hr h => ⟨t_row_of K, PSs.nox ?_, by rw [start_n (n := 6) rfl]; exact pure_row_of vs H Q E h⟩)
  have nd := sc_row_of.nd
  exact (pss_cons (ps_set (i := 1) nd rfl (Or.inl rfl) (pe_lst pa_nil))
      (pss_cons (ps_set (i := 2) nd rfl (Or.inl rfl) (pe_callTy call_list_of (by rfl) n_list (by decide +kernel) (pa_cons (pe_revT (pv 0)) pa_nil)))
      (pss_cons (ps_while PassesOwn.never (pt_truth (pv 2) (by intro _; rfl))
      (pss_cons (ps_set (i := 3) nd rfl (Or.inl rfl) (pe_bm0 PySem.F.plainAttrs_list PySem.F.slot_list_pop PySem.F.type_list_pop mt_pop (pv 2)))
      (pss_one (ps_if (pt_val (pe_isiB n_isinstance n_str (pv 3))) (pss_one (ps_expr (pe_bm PySem.F.plainAttrs_list PySem.F.slot_list_append PySem.F.type_list_append mt_append (pv 1) (pa_cons (pv 3) pa_nil)))) (pss_cons (ps_asg (pv 3) (pg_tup rfl (pgs_cons (pg_name (i := 4) nd rfl (Or.inl rfl)) (pgs_cons (pg_name (i := 5) nd rfl (Or.inl rfl)) pgs_nil))))
      (pss_cons (ps_expr (pe_bm PySem.F.plainAttrs_list PySem.F.slot_list_append PySem.F.type_list_append mt_append (pv 1) (pa_cons (pe_joined (.cons pe_str (.cons (pe_fmt (pv 4)) .nil))) pa_nil)))
      (pss_cons (ps_expr (pe_bm PySem.F.plainAttrs_list PySem.F.slot_list_append PySem.F.type_list_append mt_append (pv 2) (pa_cons (pe_joined (.cons pe_str (.cons (pe_fmt (pv 4)) .nil))) pa_nil)))
      (pss_one (ps_expr (pe_bm PySem.F.plainAttrs_list PySem.F.slot_list_extend PySem.F.type_list_extend mt_extendT (pv 2) (pa_cons (pe_revT (pv 5)) pa_nil)))))))))))
      (pss_one (ps_ret (pe_callTy call_tuple_of (by rfl) n_tuple (by decide +kernel) (pa_cons (pv 1) pa_nil)))))))
abbrev N_unchecked_wood : List Str := ["row", "done", "begins", "end", "begin"]
theorem sc_unchecked_wood : FnScope N_unchecked_wood ["row"] (defScope s_unchecked_wood) := ⟨rfl, rfl, rfl, by decide +kernel, rfl, by decide +kernel, by decide +kernel⟩
theorem ok_unchecked_wood (Dd : Df K mg "unchecked_wood" s_unchecked_wood) (n_len : mg "len" = none) (n_tuple : mg "tuple" = none) : Cal P w K mg base CX0 "unchecked_wood" ["row"] 1 (sp_unchecked_wood K) := by
  refine Dd.cal (k := 0) (N := N_unchecked_wood) sc_unchecked_wood (fun _ _ _ _ _ _ us hl => match us, hl with | [_], _ => rfl) len_unchecked_wood (fun f cdv A outer s H vs Q E hr h => ⟨t_unchecked_wood K, PSs.nox ?_, by rw [start_n (n := 5) rfl]; exact pure_unchecked_wood vs H Q E h⟩)
  have nd := sc_unchecked_wood.nd
  exact (pss_cons (ps_set (i := 1) nd rfl (Or.inl rfl) (pe_lst pa_nil))
      (pss_cons (ps_set (i := 2) nd rfl (Or.inl rfl) (pe_lst pa_nil))
      (pss_cons (ps_for PassesOwn.never (by rfl) (pi_seq (pv 0)) (pg_name (i := 3) nd rfl (Or.inl rfl))
      (pss_one (ps_if (pt_cmpR op_eq (pe_ix ix_str (pv 3) pe_int (fun _ _ => rfl)) pe_str (nomark _)) (pss_one (ps_expr (pe_bm PySem.F.plainAttrs_list PySem.F.slot_list_append PySem.F.type_list_append mt_append (pv 2) (pa_cons (pe_callB call_len_seq (by rfl) n_len (by decide +kernel) (pa_cons (pv 1) pa_nil)) pa_nil)))) (pss_cons (ps_set (i := 4) nd rfl (Or.inl rfl) (pe_bm0 PySem.F.plainAttrs_list PySem.F.slot_list_pop PySem.F.type_list_pop mt_pop (pv 2)))
      (pss_one (ps_asg (pe_lst (pa_cons (pe_tup (pa_cons (pe_slice sl_str (pv 3) (po_some pe_int) po_none) (pa_cons (pe_callTy call_tuple_of (by rfl) n_tuple (by decide +kernel) (pa_cons (pe_slice sl_list (pv 1) (po_some (pv 4)) po_none) pa_nil)) pa_nil))) pa_nil)) (pg_from (pv 1) (pv 4) (by intro _; rfl))))))))
      (pss_one (ps_ret (pe_callTy call_tuple_of (by rfl) n_tuple (by decide +kernel) (pa_cons (pv 1) pa_nil)))))))
abbrev N_parents_of : List Str := ["wood", "parents", "around", "end"]
theorem sc_parents_of : FnScope N_parents_of ["wood"] (defScope s_parents_of) := ⟨rfl, rfl, rfl, by decide +kernel, rfl, by decide +kernel, by decide +kernel⟩
theorem ok_parents_of (Dd : Df K mg "parents_of" s_parents_of) (C_row_of : Cal P w K mg base CX0 "row_of" ["wood"] 1 (sp_row_of K)) : Cal P w K mg base CX0 "parents_of" ["wood"] 2 (sp_parents_of K) := by
  refine Dd.cal (k := 1) (N := N_parents_of) sc_parents_of (fun _ _ _ _ _ _ us hl => match us, hl with | [_], _ => rfl) len_parents_of (fun f cdv A outer s H vs Q E hr h => ⟨t_parents_of K, PSs.nox ?_, by rw [start_n (n := 4) rfl]; exact pure_parents_of vs H Q E h⟩)
  have nd := sc_parents_of.nd
  exact (pss_cons (ps_set (i := 1) nd rfl (Or.inl rfl) pe_dnewK)
      (pss_cons (ps_set (i := 2) nd rfl (Or.inl rfl) (pe_lst (pa_cons pe_non pa_nil)))
      (pss_cons (ps_for PassesOwn.never (by rfl) (pi_tup (pe_cal C_row_of (hr.mono (by omega)) (by rfl) pass0 (pa_cons (pv 0) pa_nil))) (pg_name (i := 3) nd rfl (Or.inl rfl))
      (pss_one (ps_if (pt_cmpR op_eq (pe_ix ix_str (pv 3) pe_int (fun _ _ => rfl)) pe_str (nomark _)) (pss_cons (ps_dput (hu_of hr) (pv 1) (pe_slice sl_str (pv 3) (po_some pe_int) po_none) (pe_ix ix_list (pv 2) (pe_un un_neg pe_int) (fun _ _ => rfl)) rfl)
      (pss_one (ps_expr (pe_bm PySem.F.plainAttrs_list PySem.F.slot_list_append PySem.F.type_list_append mt_append (pv 2) (pa_cons (pe_slice sl_str (pv 3) (po_some pe_int) po_none) pa_nil))))) (pss_one (ps_expr (pe_bm0 PySem.F.plainAttrs_list PySem.F.slot_list_pop PySem.F.type_list_pop mt_pop (pv 2)))))))
      (pss_one (ps_ret (pv 1))))))
abbrev N_u_check_there : List Str := ["parents", "names", "name"]
theorem sc_u_check_there : FnScope N_u_check_there ["parents", "names"] (defScope s_u_check_there) := ⟨rfl, rfl, rfl, by decide +kernel, rfl, by decide +kernel, by decide +kernel⟩
theorem ok_u_check_there (Dd : Df K mg "_check_there" s_u_check_there) {A_TwigError A_BadNames A_NoName : Addr} (g_TwigError : mg "TwigError" = some (.ref A_TwigError)) (g_BadNames : mg "BadNames" = some (.ref A_BadNames)) (g_NoName : mg "NoName" = some (.ref A_NoName)) (c_TwigError : ClsB K mg "TwigError" A_TwigError) (c_BadNames : ClsB K mg "BadNames" A_BadNames) (c_NoName : ClsH P w K mg base "NoName" ["name"] true (sp_initG1 K true A_NoName "name") A_NoName 1) (cf : Cf07 K A_TwigError A_BadNames A_NoName) (n_isinstance : mg "isinstance" = none) (n_str : mg "str" = none) : Cal P w K mg base (L2N.CX P w) "_check_there" ["parents", "names"] 3 (spOf K (psp_check_thereN A_NoName)) := by
  refine Dd.cal (k := 2) (N := N_u_check_there) sc_u_check_there (fun _ _ _ _ _ _ us hl => match us, hl with | [_, _], _ => rfl) len_u_check_thereN (fun f cdv A outer s H vs Q E hr h => ⟨(X_u_check_thereN K A_NoName).rd (fun _ => E), ?_, by rw [start_n (n := 3) rfl]; exact pure_u_check_thereN vs H Q E h⟩)
  have nd := sc_u_check_there.nd
  have tk : L2N.Takes (cxOf (L2N.CX P w) P w K mg base N_u_check_there "_check_there" (defScope s_u_check_there) f cdv A outer s H E) (fun cls d _ H => E cls d H) := L2N.takes_of rfl rfl rfl rfl
  exact (show PSs _ _ (tFor (iTup K (tVar 1)) (gName 2)
  (tIfS (tOr (tNot (tB (tIsi K "str" (tVar 2)))) (tB (tDNotIn (tVar 2) (tVar 0)))) (tRaise E (tMk1 A_NoName "name" (tVar 2))) tNext)) from (pss_one (ps_for (by first | exact PassesOwn.never | exact po | exact passes_of rfl) (by rfl) (pi_tup (pv 1)) (pg_name (i := 2) nd rfl (Or.inl rfl))
      (pss_one (ps_if (PW.pt (pw_or (pt_not (pt_val (pe_isiB n_isinstance n_str (pv 2)))) (pw_or1 (pt_cmp (pc_dnotin (hu_of hr) (pv 2) (pv 0)))))) (pss_one (ps_rz5N rfl tk (pmk5_H1 c_NoName (hr.mono (by omega)) (by rfl) (pv 2) mono_var))) pss_nil)))))
abbrev N_u_check_names : List Str := ["wood", "names"]
theorem sc_u_check_names : FnScope N_u_check_names ["wood", "names"] (defScope s_u_check_names) := ⟨rfl, rfl, rfl, by decide +kernel, rfl, by decide +kernel, by decide +kernel⟩
theorem ok_u_check_names (Dd : Df K mg "_check_names" s_u_check_names) {A_TwigError A_BadNames A_NoName : Addr} (g_TwigError : mg "TwigError" = some (.ref A_TwigError)) (g_BadNames : mg "BadNames" = some (.ref A_BadNames)) (g_NoName : mg "NoName" = some (.ref A_NoName)) (c_TwigError : ClsB K mg "TwigError" A_TwigError) (c_BadNames : ClsB K mg "BadNames" A_BadNames) (c_NoName : ClsH P w K mg base "NoName" ["name"] true (sp_initG1 K true A_NoName "name") A_NoName 1) (cf : Cf07 K A_TwigError A_BadNames A_NoName) (C_are_unlike_names : Cal P w K mg base CX0 "are_unlike_names" ["value"] 2 (spOf K psp_are_unlikeA)) (C_u_check_there : Cal P w K mg base (L2N.CX P w) "_check_there" ["parents", "names"] 3 (spOf K (psp_check_thereN A_NoName))) (C_parents_of : Cal P w K mg base CX0 "parents_of" ["wood"] 2 (sp_parents_of K)) : Cal P w K mg base (L2N.CX P w) "_check_names" ["wood", "names"] 4 (spOf K (psp_check_namesN A_BadNames A_NoName)) := by
  refine Dd.cal (k := 3) (N := N_u_check_names) sc_u_check_names (fun _ _ _ _ _ _ us hl => match us, hl with | [_, _], _ => rfl) len_u_check_namesN (fun f cdv A outer s H vs Q E hr h => ⟨(X_u_check_namesN K A_BadNames A_NoName).rd (fun _ => E), ?_, by rw [start_n (n := 2) rfl]; exact pure_u_check_namesN vs H Q E h⟩)
  have nd := sc_u_check_names.nd
  have tk : L2N.Takes (cxOf (L2N.CX P w) P w K mg base N_u_check_names "_check_names" (defScope s_u_check_names) f cdv A outer s H E) (fun cls d _ H => E cls d H) := L2N.takes_of rfl rfl rfl rfl
  exact (show PSs _ _ (tSeq (tIfS (tNot (tB (tCall (spOf K psp_are_unlikeA) [] E0 (tCons (tVar 1) tNil)))) (tRaise E (fun _ H Q => Q (.ref A_BadNames) none H)) tNext)
  (tDrop (tCallS (spOf K (psp_check_thereN A_NoName)) (fun σ => E) (tCons (tCall (sp_parents_of K) [] E0 (tCons (tVar 0) tNil)) (tCons (tVar 1) tNil))))) from (pss_cons (ps_if (pt_not (pt_val (pe_cal C_are_unlike_names (hr.mono (by omega)) (by rfl) pass0 (pa_cons (pv 1) pa_nil)))) (pss_one (ps_rz5N rfl tk (pmk5_B c_BadNames (by rfl)))) pss_nil)
      (pss_one (ps_expr (pe_calS C_u_check_there (hr.mono (by omega)) (by rfl) (fun σ => L2N.passAt tk σ) (pa_cons (pe_cal C_parents_of (hr.mono (by omega)) (by rfl) pass0 (pa_cons (pv 0) pa_nil)) (pa_cons (pv 1) pa_nil)))))))
abbrev N_skeleton_of : List Str := ["wood", "names", "end"]
theorem sc_skeleton_of : FnScope N_skeleton_of ["wood", "names"] (defScope s_skeleton_of) := ⟨rfl, rfl, rfl, by decide +kernel, rfl, by decide +kernel, by decide +kernel⟩
theorem ok_skeleton_of (Dd : Df K mg "skeleton_of" s_skeleton_of) {A_TwigError A_BadNames A_NoName : Addr} (g_TwigError : mg "TwigError" = some (.ref A_TwigError)) (g_BadNames : mg "BadNames" = some (.ref A_BadNames)) (g_NoName : mg "NoName" = some (.ref A_NoName)) (c_TwigError : ClsB K mg "TwigError" A_TwigError) (c_BadNames : ClsB K mg "BadNames" A_BadNames) (c_NoName : ClsH P w K mg base "NoName" ["name"] true (sp_initG1 K true A_NoName "name") A_NoName 1) (cf : Cf07 K A_TwigError A_BadNames A_NoName) (C_u_check_names : Cal P w K mg base (L2N.CX P w) "_check_names" ["wood", "names"] 4 (spOf K (psp_check_namesN A_BadNames A_NoName))) (C_unchecked_wood : Cal P w K mg base CX0 "unchecked_wood" ["row"] 1 (sp_unchecked_wood K)) (C_row_of : Cal P w K mg base CX0 "row_of" ["wood"] 1 (sp_row_of K)) : Cal P w K mg base (L2N.CX P w) "skeleton_of" ["wood", "names"] 5 (spOf K (psp_skeleton_ofN A_BadNames A_NoName)) := by
  refine Dd.cal (k := 4) (N := N_skeleton_of) sc_skeleton_of (fun _ _ _ _ _ _ us hl => match us, hl with | [_, _], _ => rfl) len_skeleton_ofN (fun f cdv A outer s H vs Q E hr h => ⟨(X_skeleton_ofN K A_BadNames A_NoName).rd (fun _ => E), ?_, by rw [start_n (n := 3) rfl]; exact pure_skeleton_ofN vs H Q E h⟩)
  have nd := sc_skeleton_of.nd
  have tk : L2N.Takes (cxOf (L2N.CX P w) P w K mg base N_skeleton_of "skeleton_of" (defScope s_skeleton_of) f cdv A outer s H E) (fun cls d _ H => E cls d H) := L2N.takes_of rfl rfl rfl rfl
  exact (show PSs _ _ (tSeq (tDrop (tCallS (spOf K (psp_check_namesN A_BadNames A_NoName)) (fun σ => E) (tCons (tVar 0) (tCons (tVar 1) tNil))))
  (tRet (tCall (sp_unchecked_wood K) [] E0 (tCons (tLc (iTup K (tCall (sp_row_of K) [] E0 (tCons (tVar 0) tNil))) (gName 2) (tTest (tOp (rIn K false) (L2.tSl rSlS (tVar 2) (tPart (tC (.int 1))) tNoPart) (tVar 1))) (tVar 2) [2]) tNil)))) from (pss_cons (ps_expr (pe_calS C_u_check_names (hr.mono (by omega)) (by rfl) (fun σ => L2N.passAt tk σ) (pa_cons (pv 0) (pa_cons (pv 1) pa_nil))))
      (pss_one (ps_ret (pe_cal C_unchecked_wood (hr.mono (by omega)) (by rfl) pass0 (pa_cons (pe_lc (own := [("end", 2)]) (g := gName 2) (by rfl) nd (pi_tup (pe_cal C_row_of (hr.mono (by omega)) (by rfl) pass0 (pa_cons (pv 0) pa_nil))) (blkOk_by (own := [("end", 2)]) (N := N_skeleton_of) (sc := defScope s_skeleton_of) (by decide +kernel)) (fun _ _ _ _ _ => pg_name (i := 2) nd rfl (Or.inl rfl)) (fun _ _ _ _ _ => (pts_one (pt_cmpR op_in_seq (pe_slice sl_str (pv 2) (po_some pe_int) po_none) (pv 1) (by rfl)))) (fun _ _ _ _ _ => (pv 2))) pa_nil))))))
abbrev N_gaps_of : List Str := ["wood", "names", "gaps", "gap", "end"]
theorem sc_gaps_of : FnScope N_gaps_of ["wood", "names"] (defScope s_gaps_of) := ⟨rfl, rfl, rfl, by decide +kernel, rfl, by decide +kernel, by decide +kernel⟩
theorem ok_gaps_of (Dd : Df K mg "gaps_of" s_gaps_of) {A_TwigError A_BadNames A_NoName : Addr} (g_TwigError : mg "TwigError" = some (.ref A_TwigError)) (g_BadNames : mg "BadNames" = some (.ref A_BadNames)) (g_NoName : mg "NoName" = some (.ref A_NoName)) (c_TwigError : ClsB K mg "TwigError" A_TwigError) (c_BadNames : ClsB K mg "BadNames" A_BadNames) (c_NoName : ClsH P w K mg base "NoName" ["name"] true (sp_initG1 K true A_NoName "name") A_NoName 1) (cf : Cf07 K A_TwigError A_BadNames A_NoName) (n_tuple : mg "tuple" = none) (C_u_check_names : Cal P w K mg base (L2N.CX P w) "_check_names" ["wood", "names"] 4 (spOf K (psp_check_namesN A_BadNames A_NoName))) (C_row_of : Cal P w K mg base CX0 "row_of" ["wood"] 1 (sp_row_of K)) : Cal P w K mg base (L2N.CX P w) "gaps_of" ["wood", "names"] 5 (spOf K (psp_gaps_ofN A_BadNames A_NoName)) := by
  refine Dd.cal (k := 4) (N := N_gaps_of) sc_gaps_of (fun _ _ _ _ _ _ us hl => match us, hl with | [_, _], _ => rfl) len_gaps_ofN (fun f cdv A outer s H vs Q E hr h => ⟨(X_gaps_ofN K A_BadNames A_NoName).rd (fun _ => E), ?_, by rw [start_n (n := 5) rfl]; exact pure_gaps_ofN vs H Q E h⟩)
  have nd := sc_gaps_of.nd
  have tk : L2N.Takes (cxOf (L2N.CX P w) P w K mg base N_gaps_of "gaps_of" (defScope s_gaps_of) f cdv A outer s H E) (fun cls d _ H => E cls d H) := L2N.takes_of rfl rfl rfl rfl
  exact (show PSs _ _ (tSeq (tDrop (tCallS (spOf K (psp_check_namesN A_BadNames A_NoName)) (fun σ => E) (tCons (tVar 0) (tCons (tVar 1) tNil))))
  (tSeq (tAsg (tLst tNil) (gName 2))
  (tSeq (tAsg (tLst tNil) (gName 3))
  (tSeq (tFor (iTup K (tCall (sp_row_of K) [] E0 (tCons (tVar 0) tNil))) (gName 4)
  (tIfS (tTest (tOp (rIn K false) (L2.tSl rSlS (tVar 4) (tPart (tC (.int 1))) tNoPart) (tVar 1))) (tSeq (tDrop (tBM K "list" rAppend (tVar 2) (tCons (tCB (rTupleOf K) (tCons (tVar 3) tNil)) tNil)))
  (tAsg (tLst tNil) (gName 3))) (tDrop (tBM K "list" rAppend (tVar 3) (tCons (tVar 4) tNil)))))
  (tSeq (tDrop (tBM K "list" rAppend (tVar 2) (tCons (tCB (rTupleOf K) (tCons (tVar 3) tNil)) tNil)))
  (tRet (tCB (rTupleOf K) (tCons (tVar 2) tNil)))))))) from (pss_cons (ps_expr (pe_calS C_u_check_names (hr.mono (by omega)) (by rfl) (fun σ => L2N.passAt tk σ) (pa_cons (pv 0) (pa_cons (pv 1) pa_nil))))
      (pss_cons (ps_set (i := 2) nd rfl (Or.inl rfl) (pe_lst pa_nil))
      (pss_cons (ps_set (i := 3) nd rfl (Or.inl rfl) (pe_lst pa_nil))
      (pss_cons (ps_for (by first | exact PassesOwn.never | exact po | exact passes_of rfl) (by rfl) (pi_tup (pe_cal C_row_of (hr.mono (by omega)) (by rfl) pass0 (pa_cons (pv 0) pa_nil))) (pg_name (i := 4) nd rfl (Or.inl rfl))
      (pss_one (ps_if (pt_cmpR op_in_seq (pe_slice sl_str (pv 4) (po_some pe_int) po_none) (pv 1) (by rfl)) (pss_cons (ps_expr (pe_bm PySem.F.plainAttrs_list PySem.F.slot_list_append PySem.F.type_list_append mt_append (pv 2) (pa_cons (pe_callTy call_tuple_of (by rfl) n_tuple (by decide +kernel) (pa_cons (pv 3) pa_nil)) pa_nil)))
      (pss_one (ps_set (i := 3) nd rfl (Or.inl rfl) (pe_lst pa_nil)))) (pss_one (ps_expr (pe_bm PySem.F.plainAttrs_list PySem.F.slot_list_append PySem.F.type_list_append mt_append (pv 3) (pa_cons (pv 4) pa_nil)))))))
      (pss_cons (ps_expr (pe_bm PySem.F.plainAttrs_list PySem.F.slot_list_append PySem.F.type_list_append mt_append (pv 2) (pa_cons (pe_callTy call_tuple_of (by rfl) n_tuple (by decide +kernel) (pa_cons (pv 3) pa_nil)) pa_nil)))
      (pss_one (ps_ret (pe_callTy call_tuple_of (by rfl) n_tuple (by decide +kernel) (pa_cons (pv 2) pa_nil))))))))))
abbrev N_l_deck : List Str := ["_law_script", "_law_great", "_law_mixed", "_law_cell", "_law_more"]
theorem sc_l_deck : FnScope N_l_deck ["_law_script"] (defScope s_l_deck) := ⟨rfl, rfl, rfl, by decide +kernel, rfl, by decide +kernel, by decide +kernel⟩
theorem ok_l_deck (Dd : Df K mg "_law_deck" s_l_deck) (n_len : mg "len" = none) (n_int : mg "int" = none) (n_abs : mg "abs" = none) : Cal P w K mg base CX0 "_law_deck" ["_law_script"] 1 (sp_l_deck K) := by
  refine Dd.cal (k := 0) (N := N_l_deck) sc_l_deck (fun _ _ _ _ _ _ us hl => match us, hl with | [_], _ => rfl) len_l_deck (fun f cdv A outer s H vs Q E hr h => ⟨t_l_deck K, PSs.nox ?_, by rw [start_n (n := 5) rfl]; exact pure_l_deck vs H Q E h⟩)
  have nd := sc_l_deck.nd
  exact (pss_cons (ps_par (i := 1) (j := 2) (by rfl) nd rfl rfl (by decide) rfl rfl (pa_cons pe_int (pa_cons (pe_op op_add pe_int (pe_op op_mul pe_int (pe_callB call_len_seq (by rfl) n_len (by decide +kernel) (pa_cons (pv 0) pa_nil)))) pa_nil)) (by rfl))
      (pss_cons (ps_for PassesOwn.never (by rfl) (pi_list (pe_slice sl_list (pv 0) po_none (po_some pe_int))) (pg_name (i := 3) nd rfl (Or.inl rfl))
      (pss_cons (ps_set (i := 4) nd rfl (Or.inl rfl) (pe_op op_add (pe_op op_add (pe_op op_mul pe_int (pe_callB call_abs (by rfl) n_abs (by decide +kernel) (pa_cons (pv 3) pa_nil))) (pe_callTy call_int1 (by rfl) n_int (by decide +kernel) (pa_cons (pe_cmpR op_lt (pv 3) pe_int (nomark _)) pa_nil))) pe_int))
      (pss_cons (ps_set (i := 2) nd rfl (Or.inl rfl) (pe_op op_mod (pe_callTy call_int1 (by rfl) n_int (by decide +kernel) (pa_cons (pe_op op_add (pe_op op_mul (pv 2) pe_int) (pv 4)) pa_nil)) pe_int))
      (pss_one (ps_if (pt_cmpR op_ge (pe_callB call_abs (by rfl) n_abs (by decide +kernel) (pa_cons (pv 3) pa_nil)) (pe_op op_pow pe_int pe_int) (nomark _)) (pss_one (ps_set (i := 1) nd rfl (Or.inl rfl) (pe_op op_add (pe_op op_mul (pv 1) pe_int) (pe_callB call_abs (by rfl) n_abs (by decide +kernel) (pa_cons (pv 3) pa_nil))))) pss_nil)))))
      (pss_one (ps_ret (pe_lst (pa_cons (pv 1) (pa_cons (pv 2) (pa_cons pe_int pa_nil))))))))
abbrev N_l_wood_of : List Str := ["_law_kids", "_law_name_here", "_law_kid"]
theorem sc_l_wood_of : FnScope N_l_wood_of ["_law_kids", "_law_name_here"] (defScope s_l_wood_of) := ⟨rfl, rfl, rfl, by decide +kernel, rfl, by decide +kernel, by decide +kernel⟩
theorem st_l_wood_of (Dd : Df K mg "_law_wood_of" s_l_wood_of) (n_tuple : mg "tuple" = none) {m : Nat} (REC : Cal P w K mg base CX0 "_law_wood_of" ["_law_kids", "_law_name_here"] (m + 1) (spW K m)) : Cal P w K mg base CX0 "_law_wood_of" ["_law_kids", "_law_name_here"] (m + 1 + 1) (spW K (m + 1)) := by
  refine Dd.cal (k := m + 1) (N := N_l_wood_of) sc_l_wood_of (fun _ _ _ _ _ _ us hl => match us, hl with | [_, _], _ => rfl) len_spW (fun f cdv A outer s H vs Q E hr h => ⟨t_l_wood_of K (spW K m), PSs.nox ?_, by rw [start_n (n := 3) rfl]; exact pure_l_wood_of vs H Q E h⟩)
  have nd := sc_l_wood_of.nd
  exact (pss_one (ps_ret (pe_callTy call_tuple_of (by rfl) n_tuple (by decide +kernel) (pa_cons (pe_lc (own := [("_law_kid", 2)]) (g := gName 2) (by rfl) nd (pi_list (pe_dget (hu_of hr) (pv 0) (pv 1) (fun _ _ => rfl))) (blkOk_by (own := [("_law_kid", 2)]) (N := N_l_wood_of) (sc := defScope s_l_wood_of) (by decide +kernel)) (fun _ _ _ _ _ => pg_name (i := 2) nd rfl (Or.inl rfl)) (fun _ _ _ _ _ => pts_nil) (fun _ _ _ _ _ => (pe_tup (pa_cons (pv 2) (pa_cons (pe_cal REC (hr.mono (by omega)) (by rfl) pass0 (pa_cons (pv 0) (pa_cons (pv 2) pa_nil))) pa_nil))))) pa_nil))))
theorem all_l_wood_of (Dd : Df K mg "_law_wood_of" s_l_wood_of) (n_tuple : mg "tuple" = none) : ∀ m : Nat, Cal P w K mg base CX0 "_law_wood_of" ["_law_kids", "_law_name_here"] (m + 1) (spW K m)
  | 0 => Dd.cal (k := 0) (N := N_l_wood_of) sc_l_wood_of (fun _ _ _ _ _ _ us hl => match us, hl with | [_, _], _ => rfl) len_spW (fun f cdv A outer s H vs Q E hr h => False.elim h)
  | m + 1 => st_l_wood_of Dd n_tuple (all_l_wood_of Dd n_tuple m)
theorem ok_l_wood_of (Dd : Df K mg "_law_wood_of" s_l_wood_of) (n_tuple : mg "tuple" = none) : Cal P w K mg base CX0 "_law_wood_of" ["_law_kids", "_law_name_here"] 122 (spW K 121) := all_l_wood_of Dd n_tuple 121
abbrev N_l_draw : List Str := ["_law_deck_here", "_law_many", "_law_digit", "_law_mixed"]
theorem sc_l_draw : FnScope N_l_draw ["_law_deck_here", "_law_many"] (defScope s_l_draw) := ⟨rfl, rfl, rfl, by decide +kernel, rfl, by decide +kernel, by decide +kernel⟩
theorem ok_l_draw (Dd : Df K mg "_law_draw" s_l_draw) (n_int : mg "int" = none) : Cal P w K mg base CX0 "_law_draw" ["_law_deck_here", "_law_many"] 1 sp_l_draw := by
  refine Dd.cal (k := 0) (N := N_l_draw) sc_l_draw (fun _ _ _ _ _ _ us hl => match us, hl with | [_, _], _ => rfl) len_l_draw (fun f cdv A outer s H vs Q E hr h => ⟨t_l_draw K, PSs.nox ?_, by rw [start_n (n := 4) rfl]; exact pure_l_draw vs H Q E h⟩)
  have nd := sc_l_draw.nd
  exact (pss_cons (ps_if (pt_cmpR op_gt (pe_ix ix_list (pv 0) pe_int (fun _ _ => rfl)) pe_int (nomark _)) (pss_cons (ps_set (i := 2) nd rfl (Or.inl rfl) (pe_op op_mod (pe_callTy call_int1 (by rfl) n_int (by decide +kernel) (pa_cons (pe_ix ix_list (pv 0) pe_int (fun _ _ => rfl)) pa_nil)) (pv 1)))
      (pss_cons (ps_asg (pe_op op_fdiv (pe_ix ix_list (pv 0) pe_int (fun _ _ => rfl)) (pv 1)) (pg_sub (pv 0) pe_int set_list))
      (pss_one (ps_ret (pv 2))))) pss_nil)
      (pss_cons (ps_asg (pe_op op_add (pe_ix ix_list (pv 0) pe_int (fun _ _ => rfl)) pe_int) (pg_sub (pv 0) pe_int set_list))
      (pss_cons (ps_set (i := 3) nd rfl (Or.inl rfl) (pe_op op_mod (pe_callTy call_int1 (by rfl) n_int (by decide +kernel) (pa_cons (pe_op op_add (pe_ix ix_list (pv 0) pe_int (fun _ _ => rfl)) (pe_op op_mul pe_int (pe_ix ix_list (pv 0) pe_int (fun _ _ => rfl)))) pa_nil)) pe_int))
      (pss_cons (ps_set (i := 3) nd rfl (Or.inl rfl) (pe_op op_mod (pe_callTy call_int1 (by rfl) n_int (by decide +kernel) (pa_cons (pe_op op_mul (pv 3) (pe_op op_add (pe_op op_mod (pv 3) pe_int) pe_int)) pa_nil)) pe_int))
      (pss_one (ps_ret (pe_op op_mod (pe_op op_fdiv (pe_op op_mod (pe_callTy call_int1 (by rfl) n_int (by decide +kernel) (pa_cons (pe_op op_mul (pv 3) (pv 3)) pa_nil)) pe_int) pe_int) (pv 1))))))))
abbrev N_l_wood : List Str := ["_law_deck_here", "_law_names_here", "_law_kids", "_law_name_here", "_law_over", "_law_at", "_law_some", "_law_take"]
theorem sc_l_wood : FnScope N_l_wood ["_law_deck_here", "_law_names_here"] (defScope s_l_wood) := ⟨rfl, rfl, rfl, by decide +kernel, rfl, by decide +kernel, by decide +kernel⟩
theorem ok_l_wood (Dd : Df K mg "_law_wood" s_l_wood) (n_list : mg "list" = none) (n_len : mg "len" = none) (C_l_draw : Cal P w K mg base CX0 "_law_draw" ["_law_deck_here", "_law_many"] 1 sp_l_draw) (C_l_wood_of : Cal P w K mg base CX0 "_law_wood_of" ["_law_kids", "_law_name_here"] 122 (spW K 121)) : Cal P w K mg base CX0 "_law_wood" ["_law_deck_here", "_law_names_here"] 123 (sp_l_wood K) := by
  refine Dd.cal (k := 122) (N := N_l_wood) sc_l_wood (fun _ _ _ _ _ _ us hl => match us, hl with | [_, _], _ => rfl) len_l_wood (fun f cdv A outer s H vs Q E hr h => ⟨t_l_wood K, PSs.nox ?_, by rw [start_n (n := 8) rfl]; exact pure_l_wood vs H Q E h⟩)
  have nd := sc_l_wood.nd
  exact (pss_cons (ps_set (i := 2) nd rfl (Or.inl rfl) (pe_disp (pps_cons pe_str (pe_lst pa_nil) pps_nil) (by rfl) (by rfl) (fun z => by cases z) (by decide)))
      (pss_cons (ps_for PassesOwn.never (by rfl) (pi_list (pv 1)) (pg_name (i := 3) nd rfl (Or.inl rfl))
      (pss_cons (ps_set (i := 4) nd rfl (Or.inl rfl) (pe_ix ix_list (pe_listKeys n_list (pv 2)) (pe_cal C_l_draw (hr.mono (by omega)) (by rfl) pass0 (pa_cons (pv 0) (pa_cons (pe_callB call_lenD (by rfl) n_len (by decide +kernel) (pa_cons (pv 2) pa_nil)) pa_nil))) (fun _ _ => rfl)))
      (pss_cons (ps_set (i := 5) nd rfl (Or.inl rfl) (pe_cal C_l_draw (hr.mono (by omega)) (by rfl) pass0 (pa_cons (pv 0) (pa_cons (pe_op op_add (pe_callB call_len_seq (by rfl) n_len (by decide +kernel) (pa_cons (pe_dget (hu_of hr) (pv 2) (pv 4) (fun _ _ => rfl)) pa_nil)) pe_int) pa_nil))))
      (pss_cons (ps_set (i := 6) nd rfl (Or.inl rfl) (pe_dget (hu_of hr) (pv 2) (pv 4) (fun _ _ => rfl)))
      (pss_cons (ps_set (i := 7) nd rfl (Or.inl rfl) (pe_op op_mul (pe_op op_fdiv (pe_cal C_l_draw (hr.mono (by omega)) (by rfl) pass0 (pa_cons (pv 0) (pa_cons pe_int pa_nil))) pe_int) (pe_cal C_l_draw (hr.mono (by omega)) (by rfl) pass0 (pa_cons (pv 0) (pa_cons (pe_op op_add (pe_op op_sub (pe_callB call_len_seq (by rfl) n_len (by decide +kernel) (pa_cons (pv 6) pa_nil)) (pv 5)) pe_int) pa_nil)))))
      (pss_cons (ps_dput (hu_of hr) (pv 2) (pv 3) (pe_slice sl_list (pv 6) (po_some (pv 5)) (po_some (pe_op op_add (pv 5) (pv 7)))) rfl)
      (pss_one (ps_dput (hu_of hr) (pv 2) (pv 4) (pe_op op_cat (pe_op op_cat (pe_slice sl_list (pv 6) po_none (po_some (pv 5))) (pe_lst (pa_cons (pv 3) pa_nil))) (pe_slice sl_list (pv 6) (po_some (pe_op op_add (pv 5) (pv 7))) po_none)) rfl))))))))
      (pss_one (ps_ret (pe_cal C_l_wood_of (hr.mono (by omega)) (by rfl) pass0 (pa_cons (pv 2) (pa_cons pe_str pa_nil)))))))
abbrev N_l_name : List Str := ["_law_deck_here", "_law_letters", "_law_k"]
theorem sc_l_name : FnScope N_l_name ["_law_deck_here"] (defScope s_l_name) := ⟨rfl, rfl, rfl, by decide +kernel, rfl, by decide +kernel, by decide +kernel⟩
theorem ok_l_name (Dd : Df K mg "_law_name" s_l_name) (n_range : mg "range" = none) (C_l_draw : Cal P w K mg base CX0 "_law_draw" ["_law_deck_here", "_law_many"] 1 sp_l_draw) : Cal P w K mg base CX0 "_law_name" ["_law_deck_here"] 2 sp_l_name := by
  refine Dd.cal (k := 1) (N := N_l_name) sc_l_name (fun _ _ _ _ _ _ us hl => match us, hl with | [_], _ => rfl) len_l_name (fun f cdv A outer s H vs Q E hr h => ⟨t_l_name K, PSs.nox ?_, by rw [start_n (n := 3) rfl]; exact pure_l_name vs H Q E h⟩)
  have nd := sc_l_name.nd
  exact (pss_cons (ps_set (i := 1) nd rfl (Or.inr rfl) pe_str)
      (pss_one (ps_ret (pe_join pe_str (pe_lc (own := [("_law_k", 2)]) (g := gName 2) (by rfl) nd (pi_range1 (by rfl) n_range (pa_cons (pe_op op_add pe_int (pe_cal C_l_draw (hr.mono (by omega)) (by rfl) pass0 (pa_cons (pv 0) (pa_cons pe_int pa_nil)))) pa_nil)) (blkOk_by (own := [("_law_k", 2)]) (N := N_l_name) (sc := defScope s_l_name) (by decide +kernel)) (fun _ _ _ _ _ => pg_name (i := 2) nd rfl (Or.inl rfl)) (fun _ _ _ _ _ => pts_nil) (fun _ _ _ _ _ => (pe_ix ix_str (pv 1) (pe_cal C_l_draw (hr.mono (by omega)) (by rfl) pass0 (pa_cons (pv 0) (pa_cons pe_int pa_nil))) (fun _ _ => rfl))))))))
abbrev N_l_names : List Str := ["_law_deck_here", "_law_many", "_law_letters", "_law_spare", "_law_way", "_law_base", "_law_place", "_law_at", "_law_names_here", "_law_k", "_law_kind", "_law_name_here"]
theorem sc_l_names : FnScope N_l_names ["_law_deck_here", "_law_many"] (defScope s_l_names) := ⟨rfl, rfl, rfl, by decide +kernel, rfl, by decide +kernel, by decide +kernel⟩
theorem ok_l_names (Dd : Df K mg "_law_names" s_l_names) (n_range : mg "range" = none) (C_l_draw : Cal P w K mg base CX0 "_law_draw" ["_law_deck_here", "_law_many"] 1 sp_l_draw) (C_l_name : Cal P w K mg base CX0 "_law_name" ["_law_deck_here"] 2 sp_l_name) : Cal P w K mg base CX0 "_law_names" ["_law_deck_here", "_law_many"] 3 sp_l_names := by
  refine Dd.cal (k := 2) (N := N_l_names) sc_l_names (fun _ _ _ _ _ _ us hl => match us, hl with | [_, _], _ => rfl) len_l_names (fun f cdv A outer s H vs Q E hr h => ⟨t_l_names K, PSs.nox ?_, by rw [start_n (n := 12) rfl]; exact pure_l_names vs H Q E h⟩)
  have nd := sc_l_names.nd
  exact (pss_cons (ps_set (i := 2) nd rfl (Or.inr rfl) pe_str)
      (pss_cons (ps_setLc (i := 3) (own := [("_law_k", 9)]) (g := gName 9) (by rfl) nd rfl rfl (sw_true rfl rfl rfl (by decide +kernel)) (pi_range1 (by rfl) n_range (pa_cons pe_int pa_nil)) (blkOk_by (own := [("_law_k", 9)]) (N := N_l_names) (sc := defScope s_l_names) (by decide +kernel)) (fun _ _ _ _ _ => pg_name (i := 9) nd rfl (Or.inl rfl)) (fun _ _ _ _ _ => pts_nil) (fun _ _ _ _ _ => (pe_op op_add_str (pe_ix ix_str (pv 2) (pe_op op_fdiv (pv 9) pe_int) (fun _ _ => rfl)) (pe_ix ix_str (pv 2) (pe_op op_mod (pv 9) pe_int) (fun _ _ => rfl)))))
      (pss_cons (ps_par (i := 4) (j := 5) (by rfl) nd rfl rfl (by decide) rfl rfl (pa_cons (pe_cal C_l_draw (hr.mono (by omega)) (by rfl) pass0 (pa_cons (pv 0) (pa_cons pe_int pa_nil))) (pa_cons (pe_slice sl_str (pe_op op_rep_str (pe_cal C_l_name (hr.mono (by omega)) (by rfl) pass0 (pa_cons (pv 0) pa_nil)) pe_int) po_none (po_some pe_int)) pa_nil)) (by rfl))
      (pss_cons (ps_par3 (i := 6) (j := 7) (l := 8) (by rfl) nd rfl rfl rfl (by decide) (by decide) (by decide) rfl rfl rfl (pa_cons (pe_cal C_l_draw (hr.mono (by omega)) (by rfl) pass0 (pa_cons (pv 0) (pa_cons pe_int pa_nil))) (pa_cons pe_int (pa_cons (pe_lst pa_nil) pa_nil))) (by rfl))
      (pss_cons (ps_for PassesOwn.never (by rfl) (pi_range1 (by rfl) n_range (pa_cons (pv 1) pa_nil)) (pg_name (i := 9) nd rfl (Or.inl rfl))
      (C8.pss_cut (ps_set (i := 10) nd rfl (Or.inl rfl) (pe_ifExp (pt_cmpR op_eq (pv 4) pe_int (nomark _)) (pe_cal C_l_draw (hr.mono (by omega)) (by rfl) pass0 (pa_cons (pv 0) (pa_cons pe_int pa_nil))) (pv 4)))
      (C8.pss_cut (ps_if (pt_cmpR op_eq (pv 10) pe_int (nomark _)) (pss_one (ps_set (i := 11) nd rfl (Or.inl rfl) (pe_cal C_l_name (hr.mono (by omega)) (by rfl) pass0 (pa_cons (pv 0) pa_nil)))) (pss_one (ps_if (pt_cmpR op_eq (pv 10) pe_int (nomark _)) (pss_one (ps_set (i := 11) nd rfl (Or.inl rfl) (pe_op op_add_str (pe_op op_add_str (pe_slice sl_str (pv 5) po_none (po_some (pv 6))) (pe_ix ix_str (pv 2) (pe_cal C_l_draw (hr.mono (by omega)) (by rfl) pass0 (pa_cons (pv 0) (pa_cons pe_int pa_nil))) (fun _ _ => rfl))) (pe_slice sl_str (pv 5) (po_some (pe_op op_add (pv 6) pe_int)) po_none)))) (pss_one (ps_set (i := 11) nd rfl (Or.inl rfl) (pe_slice sl_str (pv 5) po_none (po_some (pe_op op_add pe_int (pe_cal C_l_draw (hr.mono (by omega)) (by rfl) pass0 (pa_cons (pv 0) (pa_cons pe_int pa_nil)))))))))))
      (pss_cons (ps_while PassesOwn.never (pt_cmpR op_in_seq (pv 11) (pv 8) (by rfl))
      (pss_cons (ps_set (i := 11) nd rfl (Or.inl rfl) (pe_ix ix_list (pv 3) (pv 7) (fun _ _ => rfl)))
      (pss_one (ps_set (i := 7) nd rfl (Or.inl rfl) (pe_op op_add (pv 7) pe_int)))))
      (pss_one (ps_expr (pe_bm PySem.F.plainAttrs_list PySem.F.slot_list_append PySem.F.type_list_append mt_append (pv 8) (pa_cons (pv 11) pa_nil))))))))
      (pss_one (ps_ret (pv 8))))))))
abbrev N_l_pick : List Str := ["_law_deck_here", "_law_items"]
theorem sc_l_pick : FnScope N_l_pick ["_law_deck_here", "_law_items"] (defScope s_l_pick) := ⟨rfl, rfl, rfl, by decide +kernel, rfl, by decide +kernel, by decide +kernel⟩
theorem ok_l_pick (Dd : Df K mg "_law_pick" s_l_pick) (n_len : mg "len" = none) (C_l_draw : Cal P w K mg base CX0 "_law_draw" ["_law_deck_here", "_law_many"] 1 sp_l_draw) : Cal P w K mg base CX0 "_law_pick" ["_law_deck_here", "_law_items"] 2 (sp_l_pick K) := by
  refine Dd.cal (k := 1) (N := N_l_pick) sc_l_pick (fun _ _ _ _ _ _ us hl => match us, hl with | [_, _], _ => rfl) len_l_pick (fun f cdv A outer s H vs Q E hr h => ⟨t_l_pick K, PSs.nox ?_, by rw [start_n (n := 2) rfl]; exact pure_l_pick vs H Q E h⟩)
  have nd := sc_l_pick.nd
  exact (pss_one (ps_ret (pe_ix ix_list (pv 1) (pe_cal C_l_draw (hr.mono (by omega)) (by rfl) pass0 (pa_cons (pv 0) (pa_cons (pe_callB call_len_seq (by rfl) n_len (by decide +kernel) (pa_cons (pv 1) pa_nil)) pa_nil))) (fun _ _ => rfl))))
abbrev N_l_odd : List Str := ["_law_deck_here", "_law_some"]
theorem sc_l_odd : FnScope N_l_odd ["_law_deck_here"] (defScope s_l_odd) := ⟨rfl, rfl, rfl, by decide +kernel, rfl, by decide +kernel, by decide +kernel⟩
theorem ok_l_odd (Dd : Df K mg "_law_odd" s_l_odd) (C_l_pick : Cal P w K mg base CX0 "_law_pick" ["_law_deck_here", "_law_items"] 2 (sp_l_pick K)) : Cal P w K mg base CX0 "_law_odd" ["_law_deck_here"] 3 (spOf K psp_l_odd05) := by
  refine Dd.cal (k := 2) (N := N_l_odd) sc_l_odd (fun _ _ _ _ _ _ us hl => match us, hl with | [_], _ => rfl) len_l_odd05 (fun f cdv A outer s H vs Q E hr h => ⟨(X_l_odd K).rd (fun _ => E0), PSs.nox ?_, by rw [start_n (n := 2) rfl]; exact pure_l_odd05 vs H Q E h⟩)
  have nd := sc_l_odd.nd
  exact (show PSs _ _ (tSeq (tAsg (tLst (tCons (tC .non) (tCons (tC (.bl true)) (tCons (tC (.bl false)) (tCons (tC (.int 0)) (tCons (tC (.int 1)) (tCons (tOp (rI0 fun i j => .int (i - j)) (tC (.int 0)) (tC (.int 7))) (tCons (tOp (rI CPow fun i j => .int (i ^ j.toNat)) (tC (.int 10)) (tC (.int 39))) (tCons (tC (.str "")) (tCons (tC (.str "A")) (tCons (tC (.str "a ")) (tCons (tC (.str "+a")) (tCons (tC (.str "aaaaaaaaa")) (tCons (tC (.str "a1")) (tCons (tC (.str "z")) (tCons (tC (.str "zzzzzzzz")) tNil)))))))))))))))) (gName 1))
  (tSeq (tAsg (tOp rCat (tVar 1) (tLst (tCons (tC (.str "`")) (tCons (tC (.str "a\n")) (tCons (tC (.str "{")) (tCons (tC (.str "a{")) (tCons (tLst (tCons (tC (.str "z")) (tCons (tTup tNil) tNil))) (tCons (tDisp [((tC (.str "a")), (tC (.int 1))), ((tC (.str "b")), (tC (.int 2)))]) tNil)))))))) (gName 1))
  (tSeq (tAsg (tOp rCat (tVar 1) (tLst (tCons (tTup (tCons (tC (.str "a")) tNil)) (tCons (tTup (tCons (tC (.str "z")) (tCons (tTup tNil) tNil))) (tCons (tLst (tCons (tC (.str "a")) tNil)) (tCons (tLst tNil) (tCons tDNewK (tCons (tDisp [((tC (.str "a")), (tC (.int 1)))]) (tCons (tTup tNil) (tCons (tTup (tCons (tTup tNil) (tCons (tTup tNil) tNil))) (tCons (tTup (tCons (tTup (tCons (tC (.str "z")) (tCons (tTup tNil) tNil))) tNil)) (tCons (tC (.str "first")) tNil)))))))))))) (gName 1))
  (tRet (tCall (sp_l_pick K) [] E0 (tCons (tVar 0) (tCons (tVar 1) tNil))))))) from (pss_cons (ps_set (i := 1) nd rfl (Or.inl rfl) (pe_lst (pa_cons pe_non (pa_cons pe_bl (pa_cons pe_bl (pa_cons pe_int (pa_cons pe_int (pa_cons (pe_op op_sub pe_int pe_int) (pa_cons (pe_op op_pow pe_int pe_int) (pa_cons pe_str (pa_cons pe_str (pa_cons pe_str (pa_cons pe_str (pa_cons pe_str (pa_cons pe_str (pa_cons pe_str (pa_cons pe_str pa_nil)))))))))))))))))
      (pss_cons (ps_set (i := 1) nd rfl (Or.inl rfl) (pe_op op_cat (pv 1) (pe_lst (pa_cons pe_str (pa_cons pe_str (pa_cons pe_str (pa_cons pe_str (pa_cons (pe_lst (pa_cons pe_str (pa_cons (pe_tup pa_nil) pa_nil))) (pa_cons (pe_disp (pps_cons pe_str pe_int (pps_cons pe_str pe_int pps_nil)) (by rfl) (by rfl) (fun z => by cases z) (by decide)) pa_nil)))))))))
      (pss_cons (ps_set (i := 1) nd rfl (Or.inl rfl) (pe_op op_cat (pv 1) (pe_lst (pa_cons (pe_tup (pa_cons pe_str pa_nil)) (pa_cons (pe_tup (pa_cons pe_str (pa_cons (pe_tup pa_nil) pa_nil))) (pa_cons (pe_lst (pa_cons pe_str pa_nil)) (pa_cons (pe_lst pa_nil) (pa_cons pe_dnewK (pa_cons (pe_disp (pps_cons pe_str pe_int pps_nil) (by rfl) (by rfl) (fun z => by cases z) (by decide)) (pa_cons (pe_tup pa_nil) (pa_cons (pe_tup (pa_cons (pe_tup pa_nil) (pa_cons (pe_tup pa_nil) pa_nil))) (pa_cons (pe_tup (pa_cons (pe_tup (pa_cons pe_str (pa_cons (pe_tup pa_nil) pa_nil))) pa_nil)) (pa_cons pe_str pa_nil)))))))))))))
      (pss_one (ps_ret (pe_cal C_l_pick (hr.mono (by omega)) (by rfl) pass0 (pa_cons (pv 0) (pa_cons (pv 1) pa_nil)))))))))
abbrev N_l_is_name : List Str := ["_law_value", "_law_sign"]
theorem sc_l_is_name : FnScope N_l_is_name ["_law_value"] (defScope s_l_is_name) := ⟨rfl, rfl, rfl, by decide +kernel, rfl, by decide +kernel, by decide +kernel⟩
theorem ok_l_is_name (Dd : Df K mg "_law_is_name" s_l_is_name) (n_isinstance : mg "isinstance" = none) (n_str : mg "str" = none) (n_len : mg "len" = none) : Cal P w K mg base CX0 "_law_is_name" ["_law_value"] 1 (sp_l_is_name K) := by
  refine Dd.cal (k := 0) (N := N_l_is_name) sc_l_is_name (fun _ _ _ _ _ _ us hl => match us, hl with | [_], _ => rfl) len_l_is_name (fun f cdv A outer s H vs Q E hr h => ⟨t_l_is_name K, PSs.nox ?_, by rw [start_n (n := 2) rfl]; exact pure_l_is_name vs H Q E h⟩)
  have nd := sc_l_is_name.nd
  exact (pss_cons (ps_if (PW.pt (pw_or (pt_not (pt_val (pe_isiB n_isinstance n_str (pv 0)))) (pw_or (pt_cmpR op_eq (pv 0) pe_str (nomark _)) (pw_or1 (pt_cmpR op_gt (pe_callB call_len_str (by rfl) n_len (by decide +kernel) (pa_cons (pv 0) pa_nil)) pe_int (nomark _)))))) (pss_one (ps_ret pe_bl)) pss_nil)
      (pss_one (ps_ret (pe_cmpR (op_eqE hr) (pe_lc (own := [("_law_sign", 1)]) (g := gName 1) (by rfl) nd (pi_str (pv 0)) (blkOk_by (own := [("_law_sign", 1)]) (N := N_l_is_name) (sc := defScope s_l_is_name) (by decide +kernel)) (fun _ _ _ _ _ => pg_name (i := 1) nd rfl (Or.inl rfl)) (fun _ _ _ _ _ => (pts_one (pt_cmpR op_notIn_sign (pv 1) pe_str (by rfl)))) (fun _ _ _ _ _ => (pv 1))) (pe_lst pa_nil) (nomark _)))))
abbrev N_l_refused : List Str := ["_law_work", "e", "_law_is_right"]
theorem sc_l_refused : FnScope N_l_refused ["_law_work"] (defScope s_l_refused) := ⟨rfl, rfl, rfl, by decide +kernel, rfl, by decide +kernel, by decide +kernel⟩
theorem B_l_refused : ∀ fd, (∃ f : Addr, FunD K "_law_refused" "_law_refused" (defArgs s_l_refused) (defBody s_l_refused) (defScope s_l_refused) [] [] f fd) → L2.Binds K fd ["_law_work"] [] := fun fd ⟨f, F⟩ => F.bindsN (fun _ _ _ _ _ _ us hl => match us, hl with | [_], _ => rfl)
abbrev N_l_due : List Str := ["_law_value", "_law_there", "_law_item", "_law_missing"]
theorem sc_l_due : FnScope N_l_due ["_law_value", "_law_there"] (defScope s_l_due) := ⟨rfl, rfl, rfl, by decide +kernel, rfl, by decide +kernel, by decide +kernel⟩
theorem ok_l_due (Dd : Df K mg "_law_due" s_l_due) (n_isinstance : mg "isinstance" = none) (n_tuple : mg "tuple" = none) (n_len : mg "len" = none) (n_set : mg "set" = none) (C_l_is_name : Cal P w K mg base CX0 "_law_is_name" ["_law_value"] 1 (sp_l_is_name K)) : Cal P w K mg base CX0 "_law_due" ["_law_value", "_law_there"] 2 (spOf K psp_l_due07) := by
  refine Dd.cal (k := 1) (N := N_l_due) sc_l_due (fun _ _ _ _ _ _ us hl => match us, hl with | [_, _], _ => rfl) len_l_due07 (fun f cdv A outer s H vs Q E hr h => ⟨(X_l_due07 K).rd (fun _ => E0), PSs.nox ?_, by rw [start_n (n := 4) rfl]; exact pure_l_due07 vs H Q E h⟩)
  have nd := sc_l_due.nd
  exact (show PSs _ _ (tSeq (tIfS (tNot (tB (tIsi K "tuple" (tVar 0)))) (tRet (tTup (tCons (tC (.str "names")) (tCons (tC (.bl true)) tNil)))) tNext)
  (tSeq (tFor (iTup K (tVar 0)) (gName 2)
  (tIfS (tNot (tB (tCall (sp_l_is_name K) [] E0 (tCons (tVar 2) tNil)))) (tRet (tTup (tCons (tC (.str "names")) (tCons (tC (.bl true)) tNil)))) tNext))
  (tSeq (tIfS (tTest (tOp rNe (tLenSetT K (tVar 0)) (tCB (rLenSeq K) (tCons (tVar 0) tNil)))) (tRet (tTup (tCons (tC (.str "names")) (tCons (tC (.bl true)) tNil)))) tNext)
  (tSeq (tAsg (tLc (iTup K (tVar 0)) (gName 2) (tTest (tOp (rInXL K true) (tVar 2) (tVar 1))) (tVar 2) [2]) (gName 3))
  (tRet (tIf (tTest (tOp (rEqE K false) (tVar 3) (tLst tNil))) (tC (.str "nothing")) (tTup (tCons (tC (.str "name")) (tCons (tOp (rIxL K) (tVar 3) (tC (.int 0))) (tCons (tC (.bl false)) (tCons (tC (.bl true)) tNil))))))))))) from (pss_cons (ps_if (pt_not (pt_val (pe_isiB n_isinstance n_tuple (pv 0)))) (pss_one (ps_ret (pe_tup (pa_cons pe_str (pa_cons pe_bl pa_nil))))) pss_nil)
      (pss_cons (ps_for PassesOwn.never (by rfl) (pi_tup (pv 0)) (pg_name (i := 2) nd rfl (Or.inl rfl))
      (pss_one (ps_if (pt_not (pt_val (pe_cal C_l_is_name (hr.mono (by omega)) (by rfl) pass0 (pa_cons (pv 2) pa_nil)))) (pss_one (ps_ret (pe_tup (pa_cons pe_str (pa_cons pe_bl pa_nil))))) pss_nil)))
      (pss_cons (ps_if (pt_cmpR op_ne (pe_lenSetT n_len n_set (pv 0)) (pe_callB call_len_seq (by rfl) n_len (by decide +kernel) (pa_cons (pv 0) pa_nil)) (nomark _)) (pss_one (ps_ret (pe_tup (pa_cons pe_str (pa_cons pe_bl pa_nil))))) pss_nil)
      (pss_cons (ps_setLc (i := 3) (own := [("_law_item", 2)]) (g := gName 2) (by rfl) nd rfl rfl (sw_true rfl rfl rfl (by decide +kernel)) (pi_tup (pv 0)) (blkOk_by (own := [("_law_item", 2)]) (N := N_l_due) (sc := defScope s_l_due) (by decide +kernel)) (fun _ _ _ _ _ => pg_name (i := 2) nd rfl (Or.inl rfl)) (fun _ _ _ _ _ => (pts_one (pt_cmpR (op_notInXL hr) (pv 2) (pv 1) (by rfl)))) (fun _ _ _ _ _ => (pv 2)))
      (pss_one (ps_ret (pe_ifExp (pt_cmpR (op_eqE hr) (pv 3) (pe_lst pa_nil) (nomark _)) pe_str (pe_tup (pa_cons pe_str (pa_cons (pe_ix ix_list (pv 3) pe_int (fun _ _ => rfl)) (pa_cons pe_bl (pa_cons pe_bl pa_nil)))))))))))))
abbrev N_law : List Str := ["_law_script", "_law_deck_here", "_law_names_here", "_law_there", "_law_wood_here", "_law_way", "_law_rare", "_law_items", "_law_k", "_law_item", "_law_value", "_law_due_here"]
theorem sc_law : FnScope N_law ["_law_script"] (defScope s_law) := ⟨rfl, rfl, rfl, by decide +kernel, rfl, by decide +kernel, by decide +kernel⟩
theorem ok_law {fa : Addr} {fd : FuncData} (F : FunD K "law" "law" (defArgs s_law) (defBody s_law) (defScope s_law) [] [] fa fd) {cT PT : Addr} (hcL : fd.code = .ref cT) (TB : LamX.TabB base mg cT PT) (hmT : (PT, ("law.<locals>.<lambda>" : Str)) ∈ Tbs.T K) (hu : ∀ p ∈ Tbs.T K, p.1 = PT → p.2 = "law.<locals>.<lambda>") (D_l_refused : Df K mg "_law_refused" s_l_refused) {A_TwigError A_BadNames A_NoName : Addr} (g_TwigError : mg "TwigError" = some (.ref A_TwigError)) (g_BadNames : mg "BadNames" = some (.ref A_BadNames)) (g_NoName : mg "NoName" = some (.ref A_NoName)) (c_TwigError : ClsB K mg "TwigError" A_TwigError) (c_BadNames : ClsB K mg "BadNames" A_BadNames) (c_NoName : ClsH P w K mg base "NoName" ["name"] true (sp_initG1 K true A_NoName "name") A_NoName 1) (cf : Cf07 K A_TwigError A_BadNames A_NoName) (n_range : mg "range" = none) (n_len : mg "len" = none) (n_tuple : mg "tuple" = none) (n_repr : mg "repr" = none) (n_isinstance : mg "isinstance" = none) (n_LookupError : mg "LookupError" = none) (C_l_deck : Cal P w K mg base CX0 "_law_deck" ["_law_script"] 1 (sp_l_deck K)) (C_l_names : Cal P w K mg base CX0 "_law_names" ["_law_deck_here", "_law_many"] 3 sp_l_names) (C_l_draw : Cal P w K mg base CX0 "_law_draw" ["_law_deck_here", "_law_many"] 1 sp_l_draw) (C_l_wood : Cal P w K mg base CX0 "_law_wood" ["_law_deck_here", "_law_names_here"] 123 (sp_l_wood K)) (C_l_pick : Cal P w K mg base CX0 "_law_pick" ["_law_deck_here", "_law_items"] 2 (sp_l_pick K)) (C_l_odd : Cal P w K mg base CX0 "_law_odd" ["_law_deck_here"] 3 (spOf K psp_l_odd05)) (C_l_due : Cal P w K mg base CX0 "_law_due" ["_law_value", "_law_there"] 2 (spOf K psp_l_due07)) (C_skeleton_of : Cal P w K mg base (L2N.CX P w) "skeleton_of" ["wood", "names"] 5 (spOf K (psp_skeleton_ofN A_BadNames A_NoName))) (C_gaps_of : Cal P w K mg base (L2N.CX P w) "gaps_of" ["wood", "names"] 5 (spOf K (psp_gaps_ofN A_BadNames A_NoName))) : FnG P w K mg base CX0 124 fa fd ["_law_script"] (sp_lawL K) := by
  refine fnG_ofC F hcL (k := 123) sc_law len_lawL (fun A outer s H vs Q E hr hq h => ⟨(lawT K 1 (X_law07 K A_TwigError A_BadNames A_NoName)), PSs.nox ?_, by rw [start_n (n := 12) rfl]; exact pure_law07 cf vs H Q E h⟩)
  have nd := sc_law.nd
  exact (show PSs _ _ (tSeq (tAsg (tCall (sp_l_deck K) [] E0 (tCons (tVar 0) tNil)) (gName 1))
  (tSeq (tAsg (tCall sp_l_names [] E0 (tCons (tVar 1) (tCons (tC (.int 10)) tNil))) (gName 2))
  (tSeq (tAsg (L2.tSl (rSlL K) (tVar 2) tNoPart (tPart (tCall sp_l_draw [] E0 (tCons (tVar 1) (tCons (tC (.int 9)) tNil))))) (gName 3))
  (tSeq (tAsg (tCall (sp_l_wood K) [] E0 (tCons (tVar 1) (tCons (tVar 3) tNil))) (gName 4))
  (tSeq (tPar 5 6 (tCons (tCall sp_l_draw [] E0 (tCons (tVar 1) (tCons (tC (.int 8)) tNil))) (tCons (tOp (rI0 fun i j => .int (i + j)) (tC (.int 1)) (tCall sp_l_draw [] E0 (tCons (tVar 1) (tCons (tC (.int 9)) tNil)))) tNil)))
  (tSeq (tAsg (tLst tNil) (gName 7))
  (tSeq (tFor (iRng1 (tCons (tCall sp_l_draw [] E0 (tCons (tVar 1) (tCons (tC (.int 7)) tNil))) tNil)) (gName 8)
  (tSeq (tAsg (tOp (rIxL K) (tVar 2) (tOp (rI (fun _ j => 0 < j) fun i j => .int (i % j)) (tOp (rI0 fun i j => .int (i + j)) (tOp (rI CMul fun i j => .int (i * j)) (tVar 8) (tC (.int 3))) (tVar 6)) (tC (.int 10)))) (gName 9))
  (C8.tCut (tIfS (tTest (tOp rEq (tCall sp_l_draw [] E0 (tCons (tVar 1) (tCons (tC (.int 3)) tNil))) (tC (.int 0)))) (tAsg (tCall (sp_l_pick K) [] E0 (tCons (tVar 1) (tCons (tVar 2) tNil))) (gName 9)) tNext)
  (C8.tCut (tIfS (tTest (tOp rEq (tCall sp_l_draw [] E0 (tCons (tVar 1) (tCons (tVar 6) tNil))) (tC (.int 0)))) (tAsg (tCall (spOf K psp_l_odd05) [] E0 (tCons (tVar 1) tNil)) (gName 9)) tNext)
  (C8.tCut (tIfS (tAnd (tTest (tOp rEq (tCall sp_l_draw [] E0 (tCons (tVar 1) (tCons (tC (.int 2)) tNil))) (tC (.int 0)))) (tTest (tOp (rEqE K true) (tVar 3) (tLst tNil)))) (tAsg (tOp (rIxL K) (tVar 3) (tOp (rI (fun _ j => 0 < j) fun i j => .int (i % j)) (tVar 8) (tCB (rLenSeq K) (tCons (tVar 3) tNil)))) (gName 9)) tNext)
  (tDrop (tBM K "list" rAppend (tVar 7) (tCons (tVar 9) tNil))))))))
  (tSeq (tAsg (tCB (rTupleOf K) (tCons (tVar 7) tNil)) (gName 10))
  (C8.tCut (tIfS (tTest (tOp rEq (tVar 5) (tC (.int 2)))) (tAsg (tCall (sp_l_pick K) [] E0 (tCons (tVar 1) (tCons (tLst (tCons (tVar 7) (tCons (tC .non) (tCons (tC (.str "a")) (tCons (tC (.int 3)) (tCons tDNewK (tCons (tC (.bl true)) tNil))))))) tNil))) (gName 10)) tNext)
  (tSeq (tAsg (tCB (rReprX K) (tCons (tCall (spOf K psp_l_due07) [] E0 (tCons (tVar 10) (tCons (tVar 3) tNil))) tNil)) (gName 11))
  (tSeq (tFor (iRng1 (tCons (tC (.int 2)) tNil)) (gName 8)
  (tSeq (tIfS (tTest (tOp rNe (tCB (rReprX K) (tCons ((SE.lamM (CL7 K A_TwigError A_BadNames A_NoName) 3 (RS7 K) (SE.callS (spOf K (psp_skeleton_ofN A_BadNames A_NoName)) (psp_skeleton_ofN A_BadNames A_NoName) (spOf_ok K (psp_skeleton_ofN A_BadNames A_NoName)) (SA.cons (SE.var 4) (SA.cons (SE.var 10) SA.nil)))).rd (fun _ => E0)) tNil)) (tVar 11))) (tRet (tC (.bl false))) tNext)
  (tIfS (tTest (tOp rNe (tCB (rReprX K) (tCons ((SE.lamM (CL7 K A_TwigError A_BadNames A_NoName) 3 (RS7 K) (SE.callS (spOf K (psp_gaps_ofN A_BadNames A_NoName)) (psp_gaps_ofN A_BadNames A_NoName) (spOf_ok K (psp_gaps_ofN A_BadNames A_NoName)) (SA.cons (SE.var 4) (SA.cons (SE.var 10) SA.nil)))).rd (fun _ => E0)) tNil)) (tVar 11))) (tRet (tC (.bl false))) tNext)))
  (tRet (tC (.bl true)))))))))))))) from (pss_cons (ps_set (i := 1) nd rfl (Or.inl rfl) (pe_cal C_l_deck (hr.mono (by omega)) (by rfl) pass0 (pa_cons (pv 0) pa_nil)))
      (pss_cons (ps_set (i := 2) nd rfl (Or.inl rfl) (pe_cal C_l_names (hr.mono (by omega)) (by rfl) pass0 (pa_cons (pv 1) (pa_cons pe_int pa_nil))))
      (pss_cons (ps_set (i := 3) nd rfl (Or.inl rfl) (pe_slice sl_list (pv 2) po_none (po_some (pe_cal C_l_draw (hr.mono (by omega)) (by rfl) pass0 (pa_cons (pv 1) (pa_cons pe_int pa_nil))))))
      (pss_cons (ps_set (i := 4) nd rfl (Or.inr rfl) (pe_cal C_l_wood (hr.mono (by omega)) (by rfl) pass0 (pa_cons (pv 1) (pa_cons (pv 3) pa_nil))))
      (pss_cons (ps_par (i := 5) (j := 6) (by rfl) nd rfl rfl (by decide) rfl rfl (pa_cons (pe_cal C_l_draw (hr.mono (by omega)) (by rfl) pass0 (pa_cons (pv 1) (pa_cons pe_int pa_nil))) (pa_cons (pe_op op_add pe_int (pe_cal C_l_draw (hr.mono (by omega)) (by rfl) pass0 (pa_cons (pv 1) (pa_cons pe_int pa_nil)))) pa_nil)) (by rfl))
      (pss_cons (ps_set (i := 7) nd rfl (Or.inl rfl) (pe_lst pa_nil))
      (pss_cons (ps_for PassesOwn.never (by rfl) (pi_range1 (by rfl) n_range (pa_cons (pe_cal C_l_draw (hr.mono (by omega)) (by rfl) pass0 (pa_cons (pv 1) (pa_cons pe_int pa_nil))) pa_nil)) (pg_name (i := 8) nd rfl (Or.inl rfl))
      (pss_cons (ps_set (i := 9) nd rfl (Or.inl rfl) (pe_ix ix_list (pv 2) (pe_op op_mod (pe_op op_add (pe_op op_mul (pv 8) pe_int) (pv 6)) pe_int) (fun _ _ => rfl)))
      (C8.pss_cut (ps_if (pt_cmpR op_eq (pe_cal C_l_draw (hr.mono (by omega)) (by rfl) pass0 (pa_cons (pv 1) (pa_cons pe_int pa_nil))) pe_int (nomark _)) (pss_one (ps_set (i := 9) nd rfl (Or.inl rfl) (pe_cal C_l_pick (hr.mono (by omega)) (by rfl) pass0 (pa_cons (pv 1) (pa_cons (pv 2) pa_nil))))) pss_nil)
      (C8.pss_cut (ps_if (pt_cmpR op_eq (pe_cal C_l_draw (hr.mono (by omega)) (by rfl) pass0 (pa_cons (pv 1) (pa_cons (pv 6) pa_nil))) pe_int (nomark _)) (pss_one (ps_set (i := 9) nd rfl (Or.inl rfl) (pe_cal C_l_odd (hr.mono (by omega)) (by rfl) pass0 (pa_cons (pv 1) pa_nil)))) pss_nil)
      (C8.pss_cut (ps_if (PW.pt (pw_and (pt_cmpR op_eq (pe_cal C_l_draw (hr.mono (by omega)) (by rfl) pass0 (pa_cons (pv 1) (pa_cons pe_int pa_nil))) pe_int (nomark _)) (pw_and1 (pt_cmpR (op_neE hr) (pv 3) (pe_lst pa_nil) (nomark _))))) (pss_one (ps_set (i := 9) nd rfl (Or.inl rfl) (pe_ix ix_list (pv 3) (pe_op op_mod (pv 8) (pe_callB call_len_seq (by rfl) n_len (by decide +kernel) (pa_cons (pv 3) pa_nil))) (fun _ _ => rfl)))) pss_nil)
      (pss_one (ps_expr (pe_bm PySem.F.plainAttrs_list PySem.F.slot_list_append PySem.F.type_list_append mt_append (pv 7) (pa_cons (pv 9) pa_nil)))))))))
      (pss_cons (ps_set (i := 10) nd rfl (Or.inr rfl) (pe_callTy call_tuple_of (by rfl) n_tuple (by decide +kernel) (pa_cons (pv 7) pa_nil)))
      (C8.pss_cut (ps_if (pt_cmpR op_eq (pv 5) pe_int (nomark _)) (pss_one (ps_set (i := 10) nd rfl (Or.inr rfl) (pe_cal C_l_pick (hr.mono (by omega)) (by rfl) pass0 (pa_cons (pv 1) (pa_cons (pe_lst (pa_cons (pv 7) (pa_cons pe_non (pa_cons pe_str (pa_cons pe_int (pa_cons pe_dnewK (pa_cons pe_bl pa_nil))))))) pa_nil))))) pss_nil)
      (pss_cons (ps_set (i := 11) nd rfl (Or.inl rfl) (pe_callB (call_reprX hr (by omega) hq) (by rfl) n_repr (by decide +kernel) (pa_cons (pe_cal C_l_due (hr.mono (by omega)) (by rfl) pass0 (pa_cons (pv 10) (pa_cons (pv 3) pa_nil))) pa_nil)))
      (pss_cons (ps_for PassesOwn.never (by rfl) (pi_range1 (by rfl) n_range (pa_cons pe_int pa_nil)) (pg_name (i := 8) nd rfl (Or.inl rfl))
      (pss_cons (ps_if (pt_cmpR op_ne (pe_callB (call_reprX hr (by omega) hq) (by rfl) n_repr (by decide +kernel) (pa_cons (pe_lamM (K := K) (l := (CL7 K A_TwigError A_BadNames A_NoName)) rfl D_l_refused (by rfl) sc_l_refused rfl (.inl rfl) rfl B_l_refused rfl sc_l_refused.nd (fun g cdg s H => (.as (i := 1) rfl rfl ⟨by rfl, by decide, .inl g_BadNames⟩ (fun a oe cls d pn hz hf => (show PSs _ _ (tSeq (tAsg (tAndV (tCB (rIsX K A_BadNames cls d a) (tCons (tVar 1) (tCons (tC (.ref A_TwigError)) tNil))) (tNotV (tCB (rIsX K A_BadNames cls d a) (tCons (tVar 1) (tCons (tC (.ty "LookupError")) tNil))))) (gName 2))
  (tRet (tTup (tCons (tC (.str "names")) (tCons (tVar 2) tNil))))) from (pss_cons (ps_set (i := 2) sc_l_refused.nd rfl (Or.inl rfl) (pe_and (pe_callB (call_isX c_BadNames.exc hz hf) (by rfl) n_isinstance (by decide +kernel) (pa_cons (pv 1) (pa_cons (pe_glob (by rfl) g_TwigError rfl) pa_nil))) (pe_one (pe_not (pe_callB (call_isX c_BadNames.exc hz hf) (by rfl) n_isinstance (by decide +kernel) (pa_cons (pv 1) (pa_cons (pe_tyN (by rfl) n_LookupError (by decide +kernel)) pa_nil)))))))
      (pss_one (ps_ret (pe_tup (pa_cons pe_str (pa_cons (pv 2) pa_nil)))))))) (.as (i := 1) rfl rfl ⟨by rfl, by decide, .inl g_NoName⟩ (fun a oe cls d pn hz hf => (show PSs _ _ (tRet (tTup (tCons (tC (.str "name")) (tCons (tXf a cls d A_NoName "name" (tVar 1)) (tCons (tCB (rIsD K A_NoName cls d a) (tCons (tVar 1) (tCons (tC (.ref A_TwigError)) tNil))) (tCons (tCB (rIsD K A_NoName cls d a) (tCons (tVar 1) (tCons (tC (.ty "LookupError")) tNil))) tNil)))))) from (pss_one (ps_ret (pe_tup (pa_cons pe_str (pa_cons (pe_xf c_NoName.xf (c_NoName.no _ (by decide)) hz hf (pv 1)) (pa_cons (pe_callB (call_isD c_NoName.exc hz hf) (by rfl) n_isinstance (by decide +kernel) (pa_cons (pv 1) (pa_cons (pe_glob (by rfl) g_TwigError rfl) pa_nil))) (pa_cons (pe_callB (call_isD c_NoName.exc hz hf) (by rfl) n_isinstance (by decide +kernel) (pa_cons (pv 1) (pa_cons (pe_tyN (by rfl) n_LookupError (by decide +kernel)) pa_nil))) pa_nil))))))))) .nil))) (fun g cdg s H => (show PSs _ _ (tRet (tC (.str "nothing"))) from (pss_one (ps_ret pe_str)))) (fun f => rfl) TB rfl hmT hu hr (LamX.lamS_by rfl) rfl (fun _ _ _ _ _ => rfl) (fun A outer s H E f c hr => (show PE _ _ (tCallS (spOf K (psp_skeleton_ofN A_BadNames A_NoName)) (fun σ => E) (tCons (tVar 4) (tCons (tVar 10) tNil))) from (pe_calS C_skeleton_of.ofN (hr.mono (by omega)) (by rfl) (fun σ => L2.passAt (L2.takes_of rfl rfl rfl rfl) σ) (pa_cons (pv 4) (pa_cons (pv 10) pa_nil)))))) pa_nil)) (pv 11) (nomark _)) (pss_one (ps_ret pe_bl)) pss_nil)
      (pss_one (ps_if (pt_cmpR op_ne (pe_callB (call_reprX hr (by omega) hq) (by rfl) n_repr (by decide +kernel) (pa_cons (pe_lamM (K := K) (l := (CL7 K A_TwigError A_BadNames A_NoName)) rfl D_l_refused (by rfl) sc_l_refused rfl (.inl rfl) rfl B_l_refused rfl sc_l_refused.nd (fun g cdg s H => (.as (i := 1) rfl rfl ⟨by rfl, by decide, .inl g_BadNames⟩ (fun a oe cls d pn hz hf => (show PSs _ _ (tSeq (tAsg (tAndV (tCB (rIsX K A_BadNames cls d a) (tCons (tVar 1) (tCons (tC (.ref A_TwigError)) tNil))) (tNotV (tCB (rIsX K A_BadNames cls d a) (tCons (tVar 1) (tCons (tC (.ty "LookupError")) tNil))))) (gName 2))
  (tRet (tTup (tCons (tC (.str "names")) (tCons (tVar 2) tNil))))) from (pss_cons (ps_set (i := 2) sc_l_refused.nd rfl (Or.inl rfl) (pe_and (pe_callB (call_isX c_BadNames.exc hz hf) (by rfl) n_isinstance (by decide +kernel) (pa_cons (pv 1) (pa_cons (pe_glob (by rfl) g_TwigError rfl) pa_nil))) (pe_one (pe_not (pe_callB (call_isX c_BadNames.exc hz hf) (by rfl) n_isinstance (by decide +kernel) (pa_cons (pv 1) (pa_cons (pe_tyN (by rfl) n_LookupError (by decide +kernel)) pa_nil)))))))
      (pss_one (ps_ret (pe_tup (pa_cons pe_str (pa_cons (pv 2) pa_nil)))))))) (.as (i := 1) rfl rfl ⟨by rfl, by decide, .inl g_NoName⟩ (fun a oe cls d pn hz hf => (show PSs _ _ (tRet (tTup (tCons (tC (.str "name")) (tCons (tXf a cls d A_NoName "name" (tVar 1)) (tCons (tCB (rIsD K A_NoName cls d a) (tCons (tVar 1) (tCons (tC (.ref A_TwigError)) tNil))) (tCons (tCB (rIsD K A_NoName cls d a) (tCons (tVar 1) (tCons (tC (.ty "LookupError")) tNil))) tNil)))))) from (pss_one (ps_ret (pe_tup (pa_cons pe_str (pa_cons (pe_xf c_NoName.xf (c_NoName.no _ (by decide)) hz hf (pv 1)) (pa_cons (pe_callB (call_isD c_NoName.exc hz hf) (by rfl) n_isinstance (by decide +kernel) (pa_cons (pv 1) (pa_cons (pe_glob (by rfl) g_TwigError rfl) pa_nil))) (pa_cons (pe_callB (call_isD c_NoName.exc hz hf) (by rfl) n_isinstance (by decide +kernel) (pa_cons (pv 1) (pa_cons (pe_tyN (by rfl) n_LookupError (by decide +kernel)) pa_nil))) pa_nil))))))))) .nil))) (fun g cdg s H => (show PSs _ _ (tRet (tC (.str "nothing"))) from (pss_one (ps_ret pe_str)))) (fun f => rfl) TB rfl hmT hu hr (LamX.lamS_by rfl) rfl (fun _ _ _ _ _ => rfl) (fun A outer s H E f c hr => (show PE _ _ (tCallS (spOf K (psp_gaps_ofN A_BadNames A_NoName)) (fun σ => E) (tCons (tVar 4) (tCons (tVar 10) tNil))) from (pe_calS C_gaps_of.ofN (hr.mono (by omega)) (by rfl) (fun σ => L2.passAt (L2.takes_of rfl rfl rfl rfl) σ) (pa_cons (pv 4) (pa_cons (pv 10) pa_nil)))))) pa_nil)) (pv 11) (nomark _)) (pss_one (ps_ret pe_bl)) pss_nil))))
      (pss_one (ps_ret pe_bl))))))))))))))
end

/-! the head -/
def d_is_name : He.DefD := ⟨("is_name", none), "is_name", "is_name", defArgs s_is_name, defBody s_is_name, defScope s_is_name, [], []⟩
def d_are_unlike_names : He.DefD := ⟨("are_unlike_names", none), "are_unlike_names", "are_unlike_names", defArgs s_are_unlike_names, defBody s_are_unlike_names, defScope s_are_unlike_names, [], []⟩
def d_row_of : He.DefD := ⟨("row_of", none), "row_of", "row_of", defArgs s_row_of, defBody s_row_of, defScope s_row_of, [], []⟩
def d_unchecked_wood : He.DefD := ⟨("unchecked_wood", none), "unchecked_wood", "unchecked_wood", defArgs s_unchecked_wood, defBody s_unchecked_wood, defScope s_unchecked_wood, [], []⟩
def d_parents_of : He.DefD := ⟨("parents_of", none), "parents_of", "parents_of", defArgs s_parents_of, defBody s_parents_of, defScope s_parents_of, [], []⟩
def d_u_check_there : He.DefD := ⟨("_check_there", none), "_check_there", "_check_there", defArgs s_u_check_there, defBody s_u_check_there, defScope s_u_check_there, [], []⟩
def d_u_check_names : He.DefD := ⟨("_check_names", none), "_check_names", "_check_names", defArgs s_u_check_names, defBody s_u_check_names, defScope s_u_check_names, [], []⟩
def d_skeleton_of : He.DefD := ⟨("skeleton_of", none), "skeleton_of", "skeleton_of", defArgs s_skeleton_of, defBody s_skeleton_of, defScope s_skeleton_of, [], []⟩
def d_gaps_of : He.DefD := ⟨("gaps_of", none), "gaps_of", "gaps_of", defArgs s_gaps_of, defBody s_gaps_of, defScope s_gaps_of, [], []⟩
def d_l_deck : He.DefD := ⟨("_law_deck", none), "_law_deck", "_law_deck", defArgs s_l_deck, defBody s_l_deck, defScope s_l_deck, [], []⟩
def d_l_wood_of : He.DefD := ⟨("_law_wood_of", none), "_law_wood_of", "_law_wood_of", defArgs s_l_wood_of, defBody s_l_wood_of, defScope s_l_wood_of, [], []⟩
def d_l_draw : He.DefD := ⟨("_law_draw", none), "_law_draw", "_law_draw", defArgs s_l_draw, defBody s_l_draw, defScope s_l_draw, [], []⟩
def d_l_wood : He.DefD := ⟨("_law_wood", none), "_law_wood", "_law_wood", defArgs s_l_wood, defBody s_l_wood, defScope s_l_wood, [], []⟩
def d_l_name : He.DefD := ⟨("_law_name", none), "_law_name", "_law_name", defArgs s_l_name, defBody s_l_name, defScope s_l_name, [], []⟩
def d_l_names : He.DefD := ⟨("_law_names", none), "_law_names", "_law_names", defArgs s_l_names, defBody s_l_names, defScope s_l_names, [], []⟩
def d_l_pick : He.DefD := ⟨("_law_pick", none), "_law_pick", "_law_pick", defArgs s_l_pick, defBody s_l_pick, defScope s_l_pick, [], []⟩
def d_l_odd : He.DefD := ⟨("_law_odd", none), "_law_odd", "_law_odd", defArgs s_l_odd, defBody s_l_odd, defScope s_l_odd, [], []⟩
def d_l_is_name : He.DefD := ⟨("_law_is_name", none), "_law_is_name", "_law_is_name", defArgs s_l_is_name, defBody s_l_is_name, defScope s_l_is_name, [], []⟩
def d_l_refused : He.DefD := ⟨("_law_refused", none), "_law_refused", "_law_refused", defArgs s_l_refused, defBody s_l_refused, defScope s_l_refused, [], []⟩
def d_l_due : He.DefD := ⟨("_law_due", none), "_law_due", "_law_due", defArgs s_l_due, defBody s_l_due, defScope s_l_due, [], []⟩
def d_law : He.DefD := ⟨("law", none), "law", "law", defArgs s_law, defBody s_law, defScope s_law, [], []⟩
def d_NoName_init : He.DefD := ⟨("NoName", some "__init__"), "__init__", "NoName.__init__", defArgs s_NoName_init, defBody s_NoName_init, defScope s_NoName_init, [], []⟩
def fn : List He.DefD := [d_is_name, d_are_unlike_names, d_row_of, d_unchecked_wood, d_parents_of, d_u_check_there, d_u_check_names, d_skeleton_of, d_gaps_of, d_l_deck, d_l_wood_of, d_l_draw, d_l_wood, d_l_name, d_l_names, d_l_pick, d_l_odd, d_l_is_name, d_l_refused, d_l_due, d_law, d_NoName_init]
def ck : List Ck := [.bare "TwigError", .bare "BadNames", .has "NoName" ["name"] true, .exm "BadNames" "BadNames" true, .exm "NoName" "BadNames" false, .exm "NoName" "NoName" true, .kit "BadNames" "TwigError" true, .kitT "BadNames" "LookupError" false, .kit "NoName" "TwigError" false, .kitT "NoName" "LookupError" true]
def fa : List He.Fa := [.glo "is_name", .glo "are_unlike_names", .glo "row_of", .glo "unchecked_wood", .glo "parents_of", .glo "_check_there", .glo "_check_names", .glo "skeleton_of", .glo "gaps_of", .glo "_law_deck", .glo "_law_wood_of", .glo "_law_draw", .glo "_law_wood", .glo "_law_name", .glo "_law_names", .glo "_law_pick", .glo "_law_odd", .glo "_law_is_name", .glo "_law_refused", .glo "_law_due", .glo "law", .free "isinstance", .free "str", .free "len", .free "tuple", .free "all", .free "set", .free "list", .free "int", .free "abs", .free "range", .free "repr", .free "LookupError", .int "_LONGEST" 8, .glo "TwigError", .glo "BadNames", .glo "NoName"]
abbrev R : PySem.W.OpenRow := PySem.W.OpenLaw.row PySem.Challenge.rw_twigscripts_k07_names_for_a_skeleton
abbrev hk : PySem.W.Hook := He.hookX 4 fa fn [] [("law", none)] (ckB ck)
def ob (s : PySem.W.SharedT) : He.AlX := He.obsX 4 fa fn [] [("law", none)] (ckB ck) (HandSHeadRun.getT s)
theorem ob_eq (s : PySem.W.SharedT) : ob s = hk.obs s.abs := He.obsX_eq (HandSHeadRun.getT_eq s)
abbrev looseN : List Str := "TwigError" :: "BadNames" :: "NoName" :: "_LONGEST" :: "is_name" :: "are_unlike_names" :: "row_of" :: "unchecked_wood" :: "parents_of" :: "_check_there" :: "skeleton_of" :: "gaps_of" :: "_check_names" :: "_law_deck" :: "_law_wood_of" :: "_law_draw" :: "_law_wood" :: "_law_name" :: "_law_names" :: "_law_pick" :: "_law_odd" :: "_law_is_name" :: "_law_refused" :: "_law_due" :: []
theorem run (w : World) : HandSHeadRun.RunEq R (PySem.W.view R.prog [28]) hk ob 4000 looseN w := by
  intro os
  kernel_rfl
@[reducible] def TI (K : PySem.W.Frag) : Tbs K := ⟨[((He.cT K ("law", none)).2, "law.<locals>.<lambda>")]⟩
theorem facts {P : Program} {w : World} {K : PySem.W.Frag} {h h0 : Heap} {mg : Str → Option Value} (X : K.In h) (G : h.Ns mainGlobals mg) (cx : He.SaysX fa fn [] [("law", none)] (ckB ck) w h0 K) (base : Heap) {ld : FuncData}
    (F : FunD K "law" "law" (defArgs s_law) (defBody s_law) (defScope s_law) [] [] (He.ga K "law") ld) (TB : LamX.TabB base mg (He.cT K ("law", none)).1 (He.cT K ("law", none)).2) : FnG P w K mg base CX0 124 (He.ga K "law") ld ["_law_script"] (@sp_lawL K (TI K)) := by
  letI : Tbs K := TI K
  have c := cx.t.d
  have D_is_name : Df K mg "is_name" s_is_name := by
    obtain ⟨fd, F⟩ := c.def_ 0 (d := d_is_name) rfl
    exact ⟨_, fd, He.glo_ok X G (c.fact 0 (f := .glo "is_name") rfl), F⟩
  have D_are_unlike_names : Df K mg "are_unlike_names" s_are_unlike_names := by
    obtain ⟨fd, F⟩ := c.def_ 1 (d := d_are_unlike_names) rfl
    exact ⟨_, fd, He.glo_ok X G (c.fact 1 (f := .glo "are_unlike_names") rfl), F⟩
  have D_row_of : Df K mg "row_of" s_row_of := by
    obtain ⟨fd, F⟩ := c.def_ 2 (d := d_row_of) rfl
    exact ⟨_, fd, He.glo_ok X G (c.fact 2 (f := .glo "row_of") rfl), F⟩
  have D_unchecked_wood : Df K mg "unchecked_wood" s_unchecked_wood := by
    obtain ⟨fd, F⟩ := c.def_ 3 (d := d_unchecked_wood) rfl
    exact ⟨_, fd, He.glo_ok X G (c.fact 3 (f := .glo "unchecked_wood") rfl), F⟩
  have D_parents_of : Df K mg "parents_of" s_parents_of := by
    obtain ⟨fd, F⟩ := c.def_ 4 (d := d_parents_of) rfl
    exact ⟨_, fd, He.glo_ok X G (c.fact 4 (f := .glo "parents_of") rfl), F⟩
  have D_u_check_there : Df K mg "_check_there" s_u_check_there := by
    obtain ⟨fd, F⟩ := c.def_ 5 (d := d_u_check_there) rfl
    exact ⟨_, fd, He.glo_ok X G (c.fact 5 (f := .glo "_check_there") rfl), F⟩
  have D_u_check_names : Df K mg "_check_names" s_u_check_names := by
    obtain ⟨fd, F⟩ := c.def_ 6 (d := d_u_check_names) rfl
    exact ⟨_, fd, He.glo_ok X G (c.fact 6 (f := .glo "_check_names") rfl), F⟩
  have D_skeleton_of : Df K mg "skeleton_of" s_skeleton_of := by
    obtain ⟨fd, F⟩ := c.def_ 7 (d := d_skeleton_of) rfl
    exact ⟨_, fd, He.glo_ok X G (c.fact 7 (f := .glo "skeleton_of") rfl), F⟩
  have D_gaps_of : Df K mg "gaps_of" s_gaps_of := by
    obtain ⟨fd, F⟩ := c.def_ 8 (d := d_gaps_of) rfl
    exact ⟨_, fd, He.glo_ok X G (c.fact 8 (f := .glo "gaps_of") rfl), F⟩
  have D_l_deck : Df K mg "_law_deck" s_l_deck := by
    obtain ⟨fd, F⟩ := c.def_ 9 (d := d_l_deck) rfl
    exact ⟨_, fd, He.glo_ok X G (c.fact 9 (f := .glo "_law_deck") rfl), F⟩
  have D_l_wood_of : Df K mg "_law_wood_of" s_l_wood_of := by
    obtain ⟨fd, F⟩ := c.def_ 10 (d := d_l_wood_of) rfl
    exact ⟨_, fd, He.glo_ok X G (c.fact 10 (f := .glo "_law_wood_of") rfl), F⟩
  have D_l_draw : Df K mg "_law_draw" s_l_draw := by
    obtain ⟨fd, F⟩ := c.def_ 11 (d := d_l_draw) rfl
    exact ⟨_, fd, He.glo_ok X G (c.fact 11 (f := .glo "_law_draw") rfl), F⟩
  have D_l_wood : Df K mg "_law_wood" s_l_wood := by
    obtain ⟨fd, F⟩ := c.def_ 12 (d := d_l_wood) rfl
    exact ⟨_, fd, He.glo_ok X G (c.fact 12 (f := .glo "_law_wood") rfl), F⟩
  have D_l_name : Df K mg "_law_name" s_l_name := by
    obtain ⟨fd, F⟩ := c.def_ 13 (d := d_l_name) rfl
    exact ⟨_, fd, He.glo_ok X G (c.fact 13 (f := .glo "_law_name") rfl), F⟩
  have D_l_names : Df K mg "_law_names" s_l_names := by
    obtain ⟨fd, F⟩ := c.def_ 14 (d := d_l_names) rfl
    exact ⟨_, fd, He.glo_ok X G (c.fact 14 (f := .glo "_law_names") rfl), F⟩
  have D_l_pick : Df K mg "_law_pick" s_l_pick := by
    obtain ⟨fd, F⟩ := c.def_ 15 (d := d_l_pick) rfl
    exact ⟨_, fd, He.glo_ok X G (c.fact 15 (f := .glo "_law_pick") rfl), F⟩
  have D_l_odd : Df K mg "_law_odd" s_l_odd := by
    obtain ⟨fd, F⟩ := c.def_ 16 (d := d_l_odd) rfl
    exact ⟨_, fd, He.glo_ok X G (c.fact 16 (f := .glo "_law_odd") rfl), F⟩
  have D_l_is_name : Df K mg "_law_is_name" s_l_is_name := by
    obtain ⟨fd, F⟩ := c.def_ 17 (d := d_l_is_name) rfl
    exact ⟨_, fd, He.glo_ok X G (c.fact 17 (f := .glo "_law_is_name") rfl), F⟩
  have D_l_refused : Df K mg "_law_refused" s_l_refused := by
    obtain ⟨fd, F⟩ := c.def_ 18 (d := d_l_refused) rfl
    exact ⟨_, fd, He.glo_ok X G (c.fact 18 (f := .glo "_law_refused") rfl), F⟩
  have D_l_due : Df K mg "_law_due" s_l_due := by
    obtain ⟨fd, F⟩ := c.def_ 19 (d := d_l_due) rfl
    exact ⟨_, fd, He.glo_ok X G (c.fact 19 (f := .glo "_law_due") rfl), F⟩
  have n_isinstance := He.free_ok X G (c.fact 21 (f := .free "isinstance") rfl)
  have n_str := He.free_ok X G (c.fact 22 (f := .free "str") rfl)
  have n_len := He.free_ok X G (c.fact 23 (f := .free "len") rfl)
  have n_tuple := He.free_ok X G (c.fact 24 (f := .free "tuple") rfl)
  have n_all := He.free_ok X G (c.fact 25 (f := .free "all") rfl)
  have n_set := He.free_ok X G (c.fact 26 (f := .free "set") rfl)
  have n_list := He.free_ok X G (c.fact 27 (f := .free "list") rfl)
  have n_int := He.free_ok X G (c.fact 28 (f := .free "int") rfl)
  have n_abs := He.free_ok X G (c.fact 29 (f := .free "abs") rfl)
  have n_range := He.free_ok X G (c.fact 30 (f := .free "range") rfl)
  have n_repr := He.free_ok X G (c.fact 31 (f := .free "repr") rfl)
  have n_LookupError := He.free_ok X G (c.fact 32 (f := .free "LookupError") rfl)
  obtain ⟨t__LONGEST, g__LONGEST⟩ := He.int_ok X G (c.fact 33 (f := .int "_LONGEST" 8) rfl)
  have g_TwigError := He.glo_ok X G (c.fact 34 (f := .glo "TwigError") rfl)
  have g_BadNames := He.glo_ok X G (c.fact 35 (f := .glo "BadNames") rfl)
  have g_NoName := He.glo_ok X G (c.fact 36 (f := .glo "NoName") rfl)
  obtain ⟨fd_NoName, F_NoName⟩ := c.def_ 21 (d := d_NoName_init) rfl
  have c_TwigError : ClsB K mg "TwigError" (He.ga K "TwigError") := clsB_of (ck_at cx.more 0 rfl) g_TwigError
  have c_BadNames : ClsB K mg "BadNames" (He.ga K "BadNames") := clsB_of (ck_at cx.more 1 rfl) g_BadNames
  have c_NoName : ClsH P w K mg base "NoName" ["name"] true (sp_initG1 K true (He.ga K "NoName") "name") (He.ga K "NoName") 1 := clsH_of (ck_at cx.more 2 rfl) g_NoName (ok_NoName_init F_NoName) (F_NoName.bindsN (fun _ _ _ _ _ _ us hl => match us, hl with | [_, _], _ => rfl))
  have cf : Cf07 K (He.ga K "TwigError") (He.ga K "BadNames") (He.ga K "NoName") := ⟨of_decide_eq_true (ck_at cx.more 3 (c := .exm "BadNames" "BadNames" true) rfl), of_decide_eq_true (ck_at cx.more 4 (c := .exm "NoName" "BadNames" false) rfl), of_decide_eq_true (ck_at cx.more 5 (c := .exm "NoName" "NoName" true) rfl), of_decide_eq_true (ck_at cx.more 6 (c := .kit "BadNames" "TwigError" true) rfl), of_decide_eq_true (ck_at cx.more 7 (c := .kitT "BadNames" "LookupError" false) rfl), of_decide_eq_true (ck_at cx.more 8 (c := .kit "NoName" "TwigError" false) rfl), of_decide_eq_true (ck_at cx.more 9 (c := .kitT "NoName" "LookupError" true) rfl)⟩
  have C_is_name := ok_is_name (P := P) (w := w) (base := base) D_is_name n_isinstance n_str n_len g__LONGEST
  have C_are_unlike_names := ok_are_unlike_names (P := P) (w := w) (base := base) D_are_unlike_names n_isinstance n_tuple n_all n_len n_set C_is_name
  have C_row_of := ok_row_of (P := P) (w := w) (base := base) D_row_of n_list n_isinstance n_str n_tuple
  have C_unchecked_wood := ok_unchecked_wood (P := P) (w := w) (base := base) D_unchecked_wood n_len n_tuple
  have C_parents_of := ok_parents_of (P := P) (w := w) (base := base) D_parents_of C_row_of
  have C_u_check_there := ok_u_check_there (P := P) (w := w) (base := base) D_u_check_there g_TwigError g_BadNames g_NoName c_TwigError c_BadNames c_NoName cf n_isinstance n_str
  have C_u_check_names := ok_u_check_names (P := P) (w := w) (base := base) D_u_check_names g_TwigError g_BadNames g_NoName c_TwigError c_BadNames c_NoName cf C_are_unlike_names C_u_check_there C_parents_of
  have C_skeleton_of := ok_skeleton_of (P := P) (w := w) (base := base) D_skeleton_of g_TwigError g_BadNames g_NoName c_TwigError c_BadNames c_NoName cf C_u_check_names C_unchecked_wood C_row_of
  have C_gaps_of := ok_gaps_of (P := P) (w := w) (base := base) D_gaps_of g_TwigError g_BadNames g_NoName c_TwigError c_BadNames c_NoName cf n_tuple C_u_check_names C_row_of
  have C_l_deck := ok_l_deck (P := P) (w := w) (base := base) D_l_deck n_len n_int n_abs
  have C_l_wood_of := ok_l_wood_of (P := P) (w := w) (base := base) D_l_wood_of n_tuple
  have C_l_draw := ok_l_draw (P := P) (w := w) (base := base) D_l_draw n_int
  have C_l_wood := ok_l_wood (P := P) (w := w) (base := base) D_l_wood n_list n_len C_l_draw C_l_wood_of
  have C_l_name := ok_l_name (P := P) (w := w) (base := base) D_l_name n_range C_l_draw
  have C_l_names := ok_l_names (P := P) (w := w) (base := base) D_l_names n_range C_l_draw C_l_name
  have C_l_pick := ok_l_pick (P := P) (w := w) (base := base) D_l_pick n_len C_l_draw
  have C_l_odd := ok_l_odd (P := P) (w := w) (base := base) D_l_odd C_l_pick
  have C_l_is_name := ok_l_is_name (P := P) (w := w) (base := base) D_l_is_name n_isinstance n_str n_len
  have C_l_due := ok_l_due (P := P) (w := w) (base := base) D_l_due n_isinstance n_tuple n_len n_set C_l_is_name
  exact ok_law F (law_code F) TB (List.mem_singleton.mpr rfl) (fun p hp _ => by rw [List.mem_singleton.mp hp]) D_l_refused g_TwigError g_BadNames g_NoName c_TwigError c_BadNames c_NoName cf n_range n_len n_tuple n_repr n_isinstance n_LookupError C_l_deck C_l_names C_l_draw C_l_wood C_l_pick C_l_odd C_l_due C_skeleton_of C_gaps_of
end TwLaw
open PySem PySem.W PySem.Calls PyProof.Rows
theorem PySem.Challenge.cw_twigscripts_k07_names_for_a_skeleton_holds : PySem.Challenge.rw_twigscripts_k07_names_for_a_skeleton.Holds := by
  w_on; o_law
  refine HandSHeadRun.head_any (r := OpenLaw.row PySem.Challenge.rw_twigscripts_k07_names_for_a_skeleton) (q := view (OpenLaw.row PySem.Challenge.rw_twigscripts_k07_names_for_a_skeleton).prog [28]) (H := TwLaw.hk) (ob := TwLaw.ob) (M := 4000) (loose := TwLaw.looseN) (d := HandSHeadRun.topDef (OpenLaw.row PySem.Challenge.rw_twigscripts_k07_names_for_a_skeleton).prog 28) (kwd := []) TwLaw.ob_eq
    (by kernel_rfl) (fun s => by kernel_rfl) TwLaw.run (by kernel_rfl) (by kernel_rfl) (by kernel_rfl) (by rfl) (by first | assumption | decide +kernel) (by decide +kernel) ⟨rfl, rfl, rfl, rfl, rfl, by decide +kernel⟩ ?hw ?hc
  case hw => w_witness2
  case hc =>
    refine Tw.walk_ofTG (l := PySem.Challenge.rw_twigscripts_k07_names_for_a_skeleton) (n := 63) (k := 124) (x := "_law_script") rfl (by decide) (by kernel_rfl) ⟨rfl, by decide, by decide⟩ ?F
    intro w mg fa h Y G hmg0
    obtain ⟨K, KX, cx⟩ := Y
    have c := cx.t.d
    have hmg : mg ("law" : PySem.Str) = some (.ref fa) := by
      have e : (HandSHeadRun.topDef (OpenLaw.row PySem.Challenge.rw_twigscripts_k07_names_for_a_skeleton).prog 28).name = ("law" : PySem.Str) := by kernel_rfl
      rw [← e]
      exact hmg0
    obtain ⟨fd, F⟩ := c.def_ 20 (d := TwLaw.d_law) rfl
    have e := hmg.symm.trans (He.glo_ok KX G (c.fact 20 (f := .glo "law") rfl))
    cases e
    have b := L2.FunD.bindsA (ps := ["_law_script"]) F fun _ _ _ _ _ _ us hl => match us, hl with | [_], _ => rfl
    have m : (("law", none) : He.Defn) ∈ ([("law", none)] : List He.Defn) := List.mem_singleton.mpr rfl
    refine ⟨K, fd, @Tw.sp_lawL K (TwLaw.TI K), (He.cT K ("law", none)).1, (He.cT K ("law", none)).2, KX, cx.empty _ m, cx.out _ m, PySem.W.codeHd_of_K KX (cx.hd _ m), fun s v => b s [v] rfl, fun H a ns hl hP hS => ⟨a, ns, rfl, hl, hS, fun p hp => by rw [List.mem_singleton.mp hp]; exact LamX.TabS.nil hP, fun _ => rfl⟩, fun base hK hG TB => ?_⟩
    exact TwLaw.facts (P := (PySem.Challenge.rw_twigscripts_k07_names_for_a_skeleton).prog) (w := w) hK hG cx base F TB
