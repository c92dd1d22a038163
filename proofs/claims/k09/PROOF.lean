import PyProof.Rows.All
import Wide.All
import OpenK.AllK
import Wide.FinOn
import HandS.ForMost
import HandS.Defaults
import HandS.TupAny
import HandS.FStr
import HandS.StrMore
import HandS.Steps
import HandS.Walk
import HandS.IsInst
import HandS.Style
import HandS.HeadEnd
import HandS.HeadHook1
import HandS.HeadHook2
import HandS.Head2
import HandS.ExcOwn
import HandS.Codes
import PyProof.NsCount
import HandS.Conv
import HandS.ListItems
import PyProof.AutoSeq1
import KE.GoesEnum
import HandS.More
import HandS.Strs
import HandS.ExcInit
import HandS.ExcField
import HandS.ExcIs
import KE.KExcIs
import HandS.Small
import HandS.TryOnly
import HandS.TryMany
import HandS.RaiseMore
import PyProof.SeqIndex
import KE.KIndexOf
import PyProof.ReprRoads
import HandS.Zip
import KE.GoesMore
import HandS.SetKeys
import HandS.HeadHook3
import HandS.HeadHook4
import PyProof.EqKinds
import PyProof.NeKinds
import PyProof.FactsAll.dict_1
import PyProof.FactsAll.list_2
import HandS.RaiseFrom
import HandS.SuiteRaise
import HandS.NoneIn
import HandS.Flow
import HandS.SortInts
import HandS.ExcInitHot
import PySem.Challenge.RW_twigscripts_k09_whole_woods_parted_and_p
set_option Elab.async false
set_option linter.all false
set_option maxRecDepth 100000
set_option maxHeartbeats 4000000
/-! Rules of my own over the hand layer: a def of the text as a callee (Cal), readings with names. -/
namespace Tw
open PySem PySem.Spec PyProof.Rows L2
section
variable {P : Program} {w : World} {K : PySem.W.Frag} {mg : Str → Option Value} {base : Heap}
/-- the def st of the text stands under the name x -/
def Df (K : PySem.W.Frag) (mg : Str → Option Value) (x : Str) (st : Stmt) : Prop := ∃ (f : Addr) (fd : FuncData), mg x = some (.ref f) ∧ FunD K x x (defArgs st) (defBody st) (defScope st) [] [] f fd
/-- a def that may be called: it keeps the promise sp -/
def Cal (P : Program) (w : World) (K : PySem.W.Frag) (mg : Str → Option Value) (base : Heap) (CX : CXT) (x : Str) (ps : List Str) (k : Nat) (sp : Sp) : Prop :=
  ∃ (f : Addr) (fd : FuncData), FnOk P w K mg base CX k f fd ps sp ∧ mg x = some (.ref f) ∧ PySem.W.keepIn K (.ref f) = true ∧ Binds K fd ps []
theorem Cal.mono {CX : CXT} {x : Str} {ps : List Str} {j k : Nat} {sp : Sp} (c : Cal P w K mg base CX x ps j sp) (h : j ≤ k) : Cal P w K mg base CX x ps k sp := by
  obtain ⟨f, fd, F, g, kp, b⟩ := c
  exact ⟨f, fd, F.mono h, g, kp, b⟩
theorem Cal.imp {CX : CXT} {x : Str} {ps : List Str} {k : Nat} {sp sp' : Sp} (c : Cal P w K mg base CX x ps k sp) (h : ∀ vs H Q E, sp' vs H Q E → sp vs H Q E) : Cal P w K mg base CX x ps k sp' := by
  obtain ⟨f, fd, F, g, kp, b⟩ := c
  exact ⟨f, fd, F.imp h, g, kp, b⟩
theorem Df.cal {CX : CXT} {x : Str} {st : Stmt} {N ps : List Str} {k : Nat} {sp : Sp} (D : Df K mg x st) (S : FnScope N ps (defScope st))
    (hb : ∀ (kV doc pm : Value) (an : Option Addr) (cdv ct : Value) (us : List Value), us.length = ps.length → bindArgs (PySem.W.fnOf x x (defArgs st) (defBody st) (defScope st) .none kV doc pm an cdv ct) ⟨us, []⟩ = pure (ps.zip us))
    (len : ∀ vs H Q E, sp vs H Q E → vs.length = ps.length)
    (hbody : ∀ (f : Addr) (cdv : Value) (A : Around) (outer : List Env) (s : Shared) (H : Hp) (vs : List V) (Q : VK) (E : XK), Room k (A.deeper (envOfC x (defScope st) s.heap.objs.size f cdv)) → sp vs H Q E →
      ∃ t, PSs (cxOf CX P w K mg base N x (defScope st) f cdv A outer s H E) (defBody st) t ∧ t { nx := fun _ H' => Q .non H', rt := Q } (start N vs) H) : Cal P w K mg base CX x ps (k + 1) sp := by
  obtain ⟨f, fd, g, F⟩ := D
  exact ⟨f, fd, F.ok S len (hbody f), g, F.kp, F.bindsN hb⟩
end
section
variable {X : Cx} {CX : CXT} {k : Nat} {ps : List Str} {sp : Sp} {E : XK} {x : Str} {p pos : Pos} {e : Expr} {es : List Expr} {t : TA}
theorem pe_cal (c : Cal X.prog X.w X.K X.mg X.base CX x ps k sp) (hr : Room k X.A) (hg : Gl X x) (hx : Passes CX X E) (ha : PA X (e :: es) t) (hdb : (x == ("__debug__" : Str)) = false := by decide)
    (he : starEach (e :: es) X.env = (false, eval e X.env) :: starEach es X.env := by rfl) (hpl : (backTo pos (starEach es X.env)).any (·.1) = false := by rfl) : PE X (.Call (.Name x p) (e :: es) [] pos) (tCall sp [] E t) := by
  obtain ⟨f, fd, F, g, kp, b⟩ := c
  exact pe_call F hr hg g kp b .nil hx ha hdb he hpl
end
/-! readings by names -/
abbrev rAddStr : R2 := fun x y H Q => ∃ i j, x = .str i ∧ y = .str j ∧ i.length + j.length ≤ sizeLine ∧ Q (.str (i ++ j)) H
abbrev rLenStr : List V → Hp → VK → Prop := fun xs H Q => ∃ z, xs = [.str z] ∧ z.length ≤ sizeLine ∧ Q (.int z.length) H
abbrev rLenSeq (K : PySem.W.Frag) : List V → Hp → VK → Prop := fun xs H Q => ∃ p ys, xs = [.ref p] ∧ (SqL K H p ys ∨ SqT K H p ys) ∧ Q (.int ys.length) H
abbrev rLenD : List V → Hp → VK → Prop := fun xs H Q => ∃ a kvs, xs = [V.ref a] ∧ H a = some (.dK kvs) ∧ Q (.int kvs.length) H
abbrev rAbs : List V → Hp → VK → Prop := fun xs H Q => ∃ i, xs = [.int i] ∧ Q (.int (if i < 0 then -i else i)) H
abbrev rInt1 : List V → Hp → VK → Prop := fun xs H Q => (∃ i, xs = [.int i] ∧ Q (.int i) H) ∨ ∃ k, xs = [.bl k] ∧ Q (.int (if k then 1 else 0)) H
abbrev rListOf (K : PySem.W.Frag) : List V → Hp → VK → Prop := fun xs H Q => ∃ p ys, xs = [.ref p] ∧ (SqL K H p ys ∨ SqT K H p ys) ∧ ∀ l, H l = none → Q (.ref l) (upd H l (.lst ys))
abbrev rTupleOf (K : PySem.W.Frag) : List V → Hp → VK → Prop := fun xs H Q => ∃ p ys, xs = [.ref p] ∧ ((SqL K H p ys ∧ ∀ l, H l = none → Q (.ref l) (upd H l (.tup ys))) ∨ (SqT K H p ys ∧ Q (.ref p) H))
abbrev rMax2 : List V → Hp → VK → Prop := fun xs H Q => ∃ i j, xs = [.int i, .int j] ∧ Q (.int (if j > i then j else i)) H
abbrev rMin2 : List V → Hp → VK → Prop := fun xs H Q => ∃ i j, xs = [.int i, .int j] ∧ Q (.int (if j < i then j else i)) H
abbrev rInsert : V → List V → Hp → VK → Prop := fun x vs H Q => ∃ (l : Addr) (xs : List V) (i : Int) (y : V), x = .ref l ∧ vs = [.int i, y] ∧ H l = some (.lst xs) ∧ xs.length < sizeLine ∧ 0 ≤ i ∧ i < 2 ^ 63 ∧ Q .non (upd H l (.lst (xs.take i.toNat ++ [y] ++ xs.drop i.toNat)))
abbrev rJoin (K : PySem.W.Frag) : V → List V → Hp → VK → Prop := fun x xs H Q => ∃ a p, ∃ ys : List Str, x = .str a ∧ xs = [.ref p] ∧ (SqL K H p (ys.map V.str) ∨ SqT K H p (ys.map V.str)) ∧ (ys.map (·.length)).sum + ys.length * a.length ≤ 16777216 ∧ Q (.str (Txt.join a ys)) H
abbrev rTxtB (f : Str → Bool) : V → List V → Hp → VK → Prop := fun x xs H Q => ∃ a, x = .str a ∧ xs = [] ∧ True ∧ Q (.bl (f a)) H
abbrev tJoined (ts : List TE) : TE := fun σ H Q => tJs ts Str.empty σ H fun out H1 => Q (.str out) H1
end Tw
set_option Elab.async false
set_option linter.all false
set_option maxRecDepth 100000
set_option maxHeartbeats 4000000
/-! Callees that may raise: the call is read in a context that says where what is raised goes. -/
namespace Tw
open PySem PySem.Spec PyProof.Rows L2
section
variable {X : Cx} {CX : CXT} {k : Nat} {ps : List Str} {sp : Sp} {E : L2.St → XK} {x : Str} {p pos : Pos} {e : Expr} {es : List Expr} {t : TA}
/-- a callee that may raise, in a body whose context takes what it raises -/
theorem pe_calS (c : Cal X.prog X.w X.K X.mg X.base CX x ps k sp) (hr : Room k X.A) (hg : Gl X x) (hx : ∀ σ, PassesAt CX X σ (E σ)) (ha : PA X (e :: es) t) (hdb : (x == ("__debug__" : Str)) = false := by decide)
    (he : starEach (e :: es) X.env = (false, eval e X.env) :: starEach es X.env := by rfl) (hpl : (backTo pos (starEach es X.env)).any (·.1) = false := by rfl) : PE X (.Call (.Name x p) (e :: es) [] pos) (tCallS sp E t) := by
  obtain ⟨f, fd, F, g, kp, b⟩ := c
  exact pe_callS F hr hg g kp b hx ha hdb he hpl
end
end Tw
set_option Elab.async false
set_option linter.all false
set_option maxRecDepth 100000
set_option maxHeartbeats 4000000
namespace Tw
open PySem PySem.Spec PyProof.Rows L2
/-! ### readings, opened -/
section
variable {K : PySem.W.Frag} {σ : L2.St} {H : Hp} {Q : VK} {ta tb te tl th : TE} {r : R2} {D : Ends} {t u : TS}
theorem o_op : tOp r ta tb σ H Q = ta σ H fun x H1 => tb σ H1 fun y H2 => r x y H2 Q := rfl
theorem o_un {r : V → Hp → VK → Prop} : tUn r ta σ H Q = ta σ H fun x H1 => r x H1 Q := rfl
theorem o_var {i : Nat} : tVar i σ H Q = ∃ v, σ[i]? = some (some v) ∧ Q v H := rfl
theorem o_c {v : V} : tC v σ H Q = Q v H := rfl
theorem o_cb {r : List V → Hp → VK → Prop} {t : TA} : tCB r t σ H Q = t σ H fun vs H1 => r vs H1 Q := rfl
theorem o_call {sp : Sp} {dvs : List V} {E : XK} {t : TA} : tCall sp dvs E t σ H Q = t σ H fun vs H1 => sp (vs ++ dvs) H1 Q E := rfl
theorem o_cons {tr : TA} {Q : List V → Hp → Prop} : tCons ta tr σ H Q = ta σ H fun x H1 => tr σ H1 fun xs H2 => Q (x :: xs) H2 := rfl
theorem o_nil {Q : List V → Hp → Prop} : tNil σ H Q = Q [] H := rfl
theorem o_tup {t : TA} : tTup t σ H Q = t σ H fun xs H1 => xs.length ≤ sizeLine ∧ ∀ p, H1 p = none → Q (.ref p) (upd H1 p (.tup xs)) := rfl
theorem o_lst {t : TA} : tLst t σ H Q = t σ H fun xs H1 => xs.length ≤ sizeLine ∧ ∀ p, H1 p = none → Q (.ref p) (upd H1 p (.lst xs)) := rfl
theorem o_I0 {g : Int → Int → V} {i j : Int} : rI0 g (.int i) (.int j) H Q = Q (g i j) H := by
  apply propext; constructor
  · rintro ⟨a, b, e1, e2, q⟩; cases e1; cases e2; exact q
  · intro q; exact ⟨i, j, rfl, rfl, q⟩
theorem o_I {C : Int → Int → Prop} {g : Int → Int → V} {i j : Int} : rI C g (.int i) (.int j) H Q = (C i j ∧ Q (g i j) H) := by
  apply propext; constructor
  · rintro ⟨a, b, e1, e2, q⟩; cases e1; cases e2; exact q
  · intro q; exact ⟨i, j, rfl, rfl, q⟩
theorem o_int1 {i : Int} : rInt1 [.int i] H Q = Q (.int i) H := by
  apply propext; constructor
  · rintro (⟨a, e, q⟩ | ⟨a, e, q⟩)
    · cases e; exact q
    · cases e
  · intro q; exact .inl ⟨i, rfl, q⟩
theorem o_intb {k : Bool} : rInt1 [.bl k] H Q = Q (.int (if k then 1 else 0)) H := by
  apply propext; constructor
  · rintro (⟨a, e, q⟩ | ⟨a, e, q⟩)
    · cases e
    · cases e; exact q
  · intro q; exact .inr ⟨k, rfl, q⟩
theorem o_abs {i : Int} : rAbs [.int i] H Q = Q (.int (if i < 0 then -i else i)) H := by
  apply propext; constructor
  · rintro ⟨a, e, q⟩; cases e; exact q
  · intro q; exact ⟨i, rfl, q⟩
theorem o_test {Q : Bool → Hp → Prop} : tTest te σ H Q = te σ H fun x H' => ∃ k, x = .bl k ∧ Q k H' := rfl
theorem o_b {Q : Bool → Hp → Prop} : tB te σ H Q = te σ H fun x H' => ∃ k, x = .bl k ∧ Q k H' := rfl
theorem o_not {t : TT} {Q : Bool → Hp → Prop} : tNot t σ H Q = t σ H fun c H1 => Q (!c) H1 := rfl
theorem o_and {t u : TT} {Q : Bool → Hp → Prop} : tAnd t u σ H Q = t σ H fun c H1 => if c = true then u σ H1 Q else Q false H1 := rfl
theorem o_or {t u : TT} {Q : Bool → Hp → Prop} : tOr t u σ H Q = t σ H fun c H1 => if c = true then Q true H1 else u σ H1 Q := rfl
theorem o_andV : tAndV ta tb σ H Q = ta σ H fun x H1 => ∃ c, x = .bl c ∧ if c = true then tb σ H1 Q else Q (.bl false) H1 := rfl
theorem o_orV : tOrV ta tb σ H Q = ta σ H fun x H1 => ∃ c, x = .bl c ∧ if c = true then Q (.bl true) H1 else tb σ H1 Q := rfl
theorem o_notV : tNotV ta σ H Q = ta σ H fun x H1 => ∃ c, x = .bl c ∧ Q (.bl (!c)) H1 := rfl
theorem o_ifE {t : TT} : tIf t ta tb σ H Q = t σ H fun c H1 => if c = true then ta σ H1 Q else tb σ H1 Q := rfl
theorem o_isN : tIsN ta σ H Q = ta σ H fun x H1 => Q (.bl (decide (x = .non))) H1 := rfl
theorem o_notN : tNotN ta σ H Q = ta σ H fun x H1 => Q (.bl (!decide (x = .non))) H1 := rfl
theorem o_eq {x y : V} : rEq x y H Q = (scal x y = true ∧ Q (.bl (decide (x = y))) H) := rfl
theorem o_ne {x y : V} : rNe x y H Q = (scal x y = true ∧ Q (.bl (!decide (x = y))) H) := rfl
theorem o_seq : tSeq t u D σ H = t { D with nx := u D } σ H := rfl
theorem o_next : tNext D σ H = D.nx σ H := rfl
theorem o_asg {g : TG} : tAsg te g D σ H = te σ H fun x H1 => g x σ H1 D.nx := rfl
theorem o_name {i : Nat} {v : V} {Q : L2.St → Hp → Prop} : gName i v σ H Q = Q (σ.set i (some v)) H := rfl
theorem o_sub {to ti : TE} {t : TSet} {v : V} {Q : L2.St → Hp → Prop} : gSub to ti t v σ H Q = to σ H fun o H1 => ti σ H1 fun i H2 => t o i v H2 fun H3 => Q σ H3 := rfl
theorem o_par {i j : Nat} {ta : TA} : tPar i j ta D σ H = ta σ H fun vs H1 => ∃ v w, vs = [v, w] ∧ D.nx ((σ.set i (some v)).set j (some w)) H1 := rfl
theorem o_drop : tDrop te D σ H = te σ H fun _ H1 => D.nx σ H1 := rfl
theorem o_ret : tRet te D σ H = te σ H D.rt := rfl
theorem o_retN : tRetN D σ H = D.rt .non H := rfl
theorem o_ifS {c : TT} : tIfS c t u D σ H = c σ H fun b H1 => if b = true then t D σ H1 else u D σ H1 := rfl
theorem o_sl {r : V → Option Int → Option Int → Hp → VK → Prop} {tl th : TO} : L2.tSl r te tl th σ H Q = te σ H fun x H1 => tl σ H1 fun l H2 => th σ H2 fun u H3 => r x l u H3 Q := rfl
theorem o_noPart {Q : Option Int → Hp → Prop} : tNoPart σ H Q = Q none H := rfl
theorem o_part {Q : Option Int → Hp → Prop} : tPart te σ H Q = te σ H fun x H1 => ∃ i, x = .int i ∧ Q (some i) H1 := rfl
theorem o_bm {T : String} {r : V → List V → Hp → VK → Prop} {to : TE} {t : TA} : tBM K T r to t σ H Q = to σ H fun x H1 => tyV K T x H1 ∧ t σ H1 fun xs H2 => r x xs H2 Q := rfl
theorem o_bm0 {T : String} {r : V → List V → Hp → VK → Prop} {to : TE} : tBM0 K T r to σ H Q = to σ H fun x H1 => tyV K T x H1 ∧ r x [] H1 Q := rfl
theorem o_m0 {r : V → List V → Hp → VK → Prop} {to : TE} : tM0 r to σ H Q = to σ H fun x H1 => (∃ a, x = .str a) ∧ r x [] H1 Q := rfl
theorem o_m1 {r : V → List V → Hp → VK → Prop} {to : TE} : tM1 r to te σ H Q = to σ H fun x H1 => (∃ a, x = .str a) ∧ te σ H1 fun y H2 => r x [y] H2 Q := rfl
theorem e_bl {k : Bool} {P : Bool → Prop} : (∃ c, V.bl k = V.bl c ∧ P c) = P k := by
  apply propext; constructor
  · rintro ⟨c, e, q⟩; cases e; exact q
  · intro q; exact ⟨k, rfl, q⟩
theorem e_int {k : Int} {P : Int → Prop} : (∃ c, V.int k = V.int c ∧ P c) = P k := by
  apply propext; constructor
  · rintro ⟨c, e, q⟩; cases e; exact q
  · intro q; exact ⟨k, rfl, q⟩
theorem e_str {k : Str} {P : Str → Prop} : (∃ c, V.str k = V.str c ∧ P c) = P k := by
  apply propext; constructor
  · rintro ⟨c, e, q⟩; cases e; exact q
  · intro q; exact ⟨k, rfl, q⟩
theorem e_some {k : V} {P : V → Prop} : (∃ v, some (some k) = some (some v) ∧ P v) = P k := by
  apply propext; constructor
  · rintro ⟨c, e, q⟩; cases e; exact q
  · intro q; exact ⟨k, rfl, q⟩
theorem e_two {a b : V} {P : V → V → Prop} : (∃ v w, [a, b] = [v, w] ∧ P v w) = P a b := by
  apply propext; constructor
  · rintro ⟨c, d, e, q⟩; cases e; exact q
  · intro q; exact ⟨a, b, rfl, q⟩
end

/-! ### loops, opened -/
/-- a for over what J walks, from here -/
def ForB (J : It) (g : TG) (tb : TS) (D : Ends) (σ : L2.St) (H : Hp) : Prop := tFor (fun _ _ R => R J H) g tb D σ H
/-- a comprehension over what J walks, from here -/
def LcB (J : It) (g : TG) (tt : TT) (te : TE) (vs : List Nat) (σ : L2.St) (H : Hp) (Q : VK) : Prop := tLc (fun _ _ R => R J H) g tt te vs σ H Q
section
variable {K : PySem.W.Frag} {σ : L2.St} {H : Hp} {Q : VK} {ta tb te tl th : TE} {r : R2} {D : Ends} {t u : TS} {g : TG} {wi : TI} {J : It} {tt : TT} {vs : List Nat}
theorem o_for : tFor wi g t D σ H = wi σ H fun J H1 => ForB J g t D σ H1 := rfl
theorem o_lc : tLc wi g tt te vs σ H Q = wi σ H fun J H1 => LcB J g tt te vs σ H1 Q := rfl
theorem o_iList {R : It → Hp → Prop} : iList K tl σ H R = tl σ H fun x H1 => ∃ a, x = .ref a ∧ (∃ xs, SqL K H1 a xs) ∧ R (Itl K a) H1 := rfl
theorem o_iTup {R : It → Hp → Prop} : iTup K tl σ H R = tl σ H fun x H1 => ∃ a, x = .ref a ∧ (∃ xs, SqT K H1 a xs) ∧ R (Itt K a) H1 := rfl
theorem o_iRng1 {ta : TA} {R : It → Hp → Prop} : iRng1 ta σ H R = ta σ H fun vs H1 => ∃ j : Int, vs = [.int j] ∧ -(2 ^ 62) ≤ j ∧ j < 2 ^ 62 ∧ R (Itr 0 j.toNat) H1 := rfl
theorem e_int1 {k : Int} {P : Int → Prop} : (∃ j : Int, [V.int k] = [V.int j] ∧ P j) = P k := by
  apply propext; constructor
  · rintro ⟨c, e, q⟩; cases e; exact q
  · intro q; exact ⟨k, rfl, q⟩
theorem e_ref {k : Addr} {P : Addr → Prop} : (∃ c, V.ref k = V.ref c ∧ P c) = P k := by
  apply propext; constructor
  · rintro ⟨c, e, q⟩; cases e; exact q
  · intro q; exact ⟨k, rfl, q⟩
theorem fb_list {a : Addr} {xs : List V} (Pv : Nat → L2.St → Hp → Prop) (h0 : Pv 0 σ H) (hl : ∀ i σ H, i ≤ xs.length → Pv i σ H → SqL K H a xs)
    (hs : ∀ i x σ H, xs[i]? = some x → Pv i σ H → g x σ H fun σ2 H2 => t { D with nx := Pv (i + 1), ct := Pv (i + 1), bk := D.nx } σ2 H2) (hd : ∀ σ H, Pv xs.length σ H → D.nx σ H) : ForB (Itl K a) g t D σ H :=
  for_list Pv h0 hl hs hd
theorem fb_tup {a : Addr} {xs : List V} (Pv : Nat → L2.St → Hp → Prop) (h0 : Pv 0 σ H) (hl : ∀ i σ H, i ≤ xs.length → Pv i σ H → SqT K H a xs)
    (hs : ∀ i x σ H, xs[i]? = some x → Pv i σ H → g x σ H fun σ2 H2 => t { D with nx := Pv (i + 1), ct := Pv (i + 1), bk := D.nx } σ2 H2) (hd : ∀ σ H, Pv xs.length σ H → D.nx σ H) : ForB (Itt K a) g t D σ H :=
  for_tup Pv h0 hl hs hd
theorem fb_range {lo : Int} {n : Nat} (Pv : Nat → L2.St → Hp → Prop) (h0 : Pv 0 σ H)
    (hs : ∀ i σ H, i < n → Pv i σ H → g (.int (lo + i)) σ H fun σ2 H2 => t { D with nx := Pv (i + 1), ct := Pv (i + 1), bk := D.nx } σ2 H2) (hd : ∀ σ H, Pv n σ H → D.nx σ H) : ForB (Itr lo n) g t D σ H :=
  for_range Pv h0 hs hd
theorem lb_walk {n : Nat} {G : Hp → Prop} {Y : Nat → Hp → V → Hp → Prop} (wk : Walk J n G Y) (Pv : Addr → Nat → Hp → Prop) (h0 : ∀ D, H D = none → Pv D 0 (upd H D (.lst []))) (hG : ∀ D i H, i ≤ n → Pv D i H → G H)
    (hs : ∀ D i x H H', i < n → Pv D i H → Y i H x H' → g x (wipe σ vs) H' fun σ2 H2 => wipe σ2 vs = wipe σ vs ∧ tt σ2 H2 fun b H3 =>
      if b = true then te σ2 H3 fun y H4 => ∃ acc, H4 D = some (.lst acc) ∧ acc.length < sizeLine ∧ Pv D (i + 1) (upd H4 D (.lst (acc ++ [y]))) else Pv D (i + 1) H3) (hd : ∀ D H', H D = none → Pv D n H' → Q (.ref D) H') : LcB J g tt te vs σ H Q :=
  fun D hD => lc_it (Qd := fun H' => Q (.ref D) H') wk (Pv D) (h0 D hD) (hG D) (fun i x H1 H2 hi p y => hs D i x H1 H2 hi p y) fun H1 p => hd D H1 hD p
theorem fb_walk {n : Nat} {G : Hp → Prop} {Y : Nat → Hp → V → Hp → Prop} (wk : Walk J n G Y) (Pv : Nat → L2.St → Hp → Prop) (h0 : Pv 0 σ H) (hG : ∀ i σ H, i ≤ n → Pv i σ H → G H)
    (hs : ∀ i x σ H H', i < n → Pv i σ H → Y i H x H' → g x σ H' fun σ2 H2 => t { D with nx := Pv (i + 1), ct := Pv (i + 1), bk := D.nx } σ2 H2) (hd : ∀ σ H, Pv n σ H → D.nx σ H) : ForB J g t D σ H :=
  for_it wk Pv h0 hG hs hd
theorem o_lcEnd {σ : L2.St} {Q : VK} {x : V} : Q x H = Q x H := rfl
end
/-- the slots at a def's entry, by their number -/
def startN (n : Nat) (vs : List V) : L2.St := vs.map some ++ List.replicate (n - vs.length) none
theorem start_n {N : List Str} {vs : List V} {n : Nat} (h : N.length = n) : start N vs = startN n vs := by
  subst h; rfl
end Tw
set_option Elab.async false
set_option linter.all false
set_option maxRecDepth 100000
set_option maxHeartbeats 4000000
namespace Tw
open PySem PySem.Spec PyProof.Rows L2 TL
theorem o_wipe0 {σ : L2.St} : wipe σ [] = σ := rfl
theorem o_wipe1 {σ : L2.St} {v : Nat} {vs : List Nat} : wipe σ (v :: vs) = (wipe σ vs).set v none := rfl
theorem o_yes {σ : L2.St} {H : Hp} {Q : Bool → Hp → Prop} : tYes σ H Q = Q true H := rfl
local macro_rules | `(tactic| walk_at "rd") => `(tactic| simp only [o_op, o_un, o_var, o_c, o_cb, o_call, o_cons, o_nil, o_tup, o_lst, o_I0, o_I, o_int1, o_intb, o_abs, o_test, o_b, o_not, o_and, o_or, o_andV, o_orV, o_notV, o_ifE, o_isN, o_notN, o_eq, o_ne, o_seq, o_next, o_asg, o_name, o_sub, o_par, o_drop, o_ret, o_retN, o_ifS, o_sl, o_noPart, o_part, o_bm, o_bm0, o_m0, o_m1, e_bl, e_int, e_str, e_some, e_two, o_for, o_lc, o_iList, o_iTup, o_iRng1, e_int1, e_ref, o_yes, o_wipe0, o_wipe1, true_and, if_pos, List.getElem?_cons_zero, List.getElem?_cons_succ, List.set_cons_zero, List.set_cons_succ, List.append_nil])
/-- a deck stands at a: three ints -/
def DeckAt (H : Hp) (a : Addr) : Prop := ∃ g m c : Int, H a = some (.lst [.int g, .int m, .int c])
/-- all that was tracked stands as it was, but for the deck at a, which is one still -/
structure Dk (a : Addr) (H H' : Hp) : Prop where
  keep : ∀ b o, H b = some o → b ≠ a → H' b = some o
  deck : DeckAt H' a
theorem Dk.refl {a : Addr} {H : Hp} (d : DeckAt H a) : Dk a H H := ⟨fun _ _ h _ => h, d⟩
theorem Dk.trans {a : Addr} {H H1 H2 : Hp} (x : Dk a H H1) (y : Dk a H1 H2) : Dk a H H2 := ⟨fun b o h n => y.keep b o (x.keep b o h n) n, y.deck⟩
theorem Dk.new {a p : Addr} {H H1 : Hp} {o : HO} (x : Dk a H H1) (n : H1 p = none) : Dk a H (upd H1 p o) :=
  ⟨fun b u h nb => by rw [upd_ne (ne_of_none (x.keep b u h nb) n)]; exact x.keep b u h nb, by
    obtain ⟨g, m, c, e⟩ := x.deck
    exact ⟨g, m, c, by rw [upd_ne (ne_of_none e n)]; exact e⟩⟩
def sp_l_draw : Sp := fun vs H Q _ => ∃ (a : Addr) (n : Int), vs = [.ref a, .int n] ∧ DeckAt H a ∧ 0 < n ∧ n < 1073741824 ∧ ∀ (d : Int) (H' : Hp), 0 ≤ d → d < n → Dk a H H' → Q (.int d) H'
theorem len_l_draw (vs : List V) (H : Hp) (Q : VK) (E : XK) (h : sp_l_draw vs H Q E) : vs.length = 2 := by
  obtain ⟨a, n, rfl, _⟩ := h
  rfl
def t_l_draw (K : PySem.W.Frag) : TS :=
  (tSeq (tIfS (tTest (tOp (rI0 fun i j => .bl (decide (j < i))) (tOp (rIxL K) (tVar 0) (tC (.int 0))) (tC (.int 0)))) (tSeq (tAsg (tOp (rI (fun _ j => 0 < j) fun i j => .int (i % j)) (tCB rInt1 (tCons (tOp (rIxL K) (tVar 0) (tC (.int 0))) tNil)) (tVar 1)) (gName 2))
  (tSeq (tAsg (tOp (rI CDiv fun i j => .int (i / j)) (tOp (rIxL K) (tVar 0) (tC (.int 0))) (tVar 1)) (gSub (tVar 0) (tC (.int 0)) rSetL))
  (tRet (tVar 2)))) tNext)
  (tSeq (tAsg (tOp (rI0 fun i j => .int (i + j)) (tOp (rIxL K) (tVar 0) (tC (.int 2))) (tC (.int 1))) (gSub (tVar 0) (tC (.int 2)) rSetL))
  (tSeq (tAsg (tOp (rI (fun _ j => 0 < j) fun i j => .int (i % j)) (tCB rInt1 (tCons (tOp (rI0 fun i j => .int (i + j)) (tOp (rIxL K) (tVar 0) (tC (.int 1))) (tOp (rI CMul fun i j => .int (i * j)) (tC (.int 11400714819323198485)) (tOp (rIxL K) (tVar 0) (tC (.int 2))))) tNil)) (tC (.int 18446744073709551557))) (gName 3))
  (tSeq (tAsg (tOp (rI (fun _ j => 0 < j) fun i j => .int (i % j)) (tCB rInt1 (tCons (tOp (rI CMul fun i j => .int (i * j)) (tVar 3) (tOp (rI0 fun i j => .int (i + j)) (tOp (rI (fun _ j => 0 < j) fun i j => .int (i % j)) (tVar 3) (tC (.int 4294967291))) (tC (.int 7)))) tNil)) (tC (.int 2305843009213693951))) (gName 3))
  (tRet (tOp (rI (fun _ j => 0 < j) fun i j => .int (i % j)) (tOp (rI CDiv fun i j => .int (i / j)) (tOp (rI (fun _ j => 0 < j) fun i j => .int (i % j)) (tCB rInt1 (tCons (tOp (rI CMul fun i j => .int (i * j)) (tVar 3) (tVar 3)) tNil)) (tC (.int 2305843009213693921))) (tC (.int 2048))) (tVar 1)))))))
def t_l_deck (K : PySem.W.Frag) : TS :=
  (tSeq (tPar 1 2 (tCons (tC (.int 0)) (tCons (tOp (rI0 fun i j => .int (i + j)) (tC (.int 2917)) (tOp (rI CMul fun i j => .int (i * j)) (tC (.int 41)) (tCB (rLenSeq K) (tCons (tVar 0) tNil)))) tNil)))
  (tSeq (tFor (iList K (L2.tSl (rSlL K) (tVar 0) tNoPart (tPart (tC (.int 60))))) (gName 3)
  (tSeq (tAsg (tOp (rI0 fun i j => .int (i + j)) (tOp (rI0 fun i j => .int (i + j)) (tOp (rI CMul fun i j => .int (i * j)) (tC (.int 2)) (tCB rAbs (tCons (tVar 3) tNil))) (tCB rInt1 (tCons (tOp (rI0 fun i j => .bl (decide (i < j))) (tVar 3) (tC (.int 0))) tNil))) (tC (.int 1))) (gName 4))
  (tSeq (tAsg (tOp (rI (fun _ j => 0 < j) fun i j => .int (i % j)) (tCB rInt1 (tCons (tOp (rI0 fun i j => .int (i + j)) (tOp (rI CMul fun i j => .int (i * j)) (tVar 2) (tC (.int 6364136223846793005))) (tVar 4)) tNil)) (tC (.int 2305843009213693951))) (gName 2))
  (tIfS (tTest (tOp (rI0 fun i j => .bl (decide (j ≤ i))) (tCB rAbs (tCons (tVar 3) tNil)) (tOp (rI CPow fun i j => .int (i ^ j.toNat)) (tC (.int 10)) (tC (.int 18))))) (tAsg (tOp (rI0 fun i j => .int (i + j)) (tOp (rI CMul fun i j => .int (i * j)) (tVar 1) (tC (.int 37))) (tCB rAbs (tCons (tVar 3) tNil))) (gName 1)) tNext))))
  (tRet (tLst (tCons (tVar 1) (tCons (tVar 2) (tCons (tC (.int 0)) tNil)))))))
def t_l_name (K : PySem.W.Frag) : TS :=
  (tSeq (tAsg (tC (.str "abcdefghijklmnopqrstuvwxyz")) (gName 1))
  (tRet (tM1 (rJoin K) (tC (.str "")) (tLc (iRng1 (tCons (tOp (rI0 fun i j => .int (i + j)) (tC (.int 1)) (tCall sp_l_draw [] E0 (tCons (tVar 0) (tCons (tC (.int 8)) tNil)))) tNil)) (gName 2) tYes (tOp rIxS (tVar 1) (tCall sp_l_draw [] E0 (tCons (tVar 0) (tCons (tC (.int 26)) tNil)))) [2]))))
section
variable {K : PySem.W.Frag}
theorem big_mod (x : Int) : -(2 ^ 64) < x % 18446744073709551557 ∧ x % 18446744073709551557 < 2 ^ 64 := by omega
theorem big_mod2 (x : Int) : -(2 ^ 64) < x % 2305843009213693951 ∧ x % 2305843009213693951 < 2 ^ 64 := by omega
theorem o_ixL {p : Addr} {xs : List V} {i : Int} {v : V} {H : Hp} {Q : VK} (h : H p = some (.lst xs)) (e : atI xs i = some v) (q : Q v H) : rIxL K (.ref p) (.int i) H Q := ⟨p, xs, i, v, rfl, rfl, SqL.of h, e, q⟩
theorem pure_l_draw (vs : List V) (H : Hp) (Q : VK) (E : XK) (h : sp_l_draw vs H Q E) : t_l_draw K { nx := fun _ H' => Q .non H', rt := Q } (startN 4 vs) H := by
  obtain ⟨a, n, rfl, ⟨g, m, c, hd⟩, hn, hn2, q⟩ := h
  show t_l_draw K _ [some (.ref a), some (.int n), none, none] H
  unfold t_l_draw
  walk_at "rd"
  refine o_ixL hd rfl ?_
  walk_at "rd"
  by_cases hg : 0 < g
  · rw [decide_eq_true hg, if_pos rfl]
    refine o_ixL hd rfl ?_
    walk_at "rd"
    refine ⟨hn, o_ixL hd rfl ?_⟩
    walk_at "rd"
    refine ⟨⟨hn, hn2⟩, a, _, 0, 0, rfl, rfl, hd, rfl, ?_⟩
    exact q _ _ (Int.emod_nonneg _ (by omega)) (Int.emod_lt_of_pos _ hn) ⟨fun b o e nb => by rw [upd_ne nb]; exact e, _, _, _, upd_same⟩
  · rw [decide_eq_false hg, if_neg (by decide)]
    refine o_ixL hd rfl ?_
    walk_at "rd"
    refine ⟨a, _, 2, 2, rfl, rfl, hd, rfl, ?_⟩
    refine o_ixL upd_same rfl ?_
    refine o_ixL upd_same rfl ?_
    walk_at "rd"
    refine ⟨.inl ⟨by decide, by decide⟩, by decide, by decide, .inl ?_, by decide, .inl ?_, by decide, ⟨by decide, by decide⟩, hn, ?_⟩
    · exact big_mod _
    · exact big_mod2 _
    exact q _ _ (Int.emod_nonneg _ (by omega)) (Int.emod_lt_of_pos _ hn) ⟨fun b o e nb => by rw [upd_ne nb]; exact e, _, _, _, upd_same⟩

/-- all that was tracked stands as it was -/
abbrev Kp (H H' : Hp) : Prop := ∀ b o, H b = some o → H' b = some o
theorem Kp.new {H H1 : Hp} {p : Addr} {o : HO} (x : Kp H H1) (n : H1 p = none) : Kp H (upd H1 p o) := fun b u h => by rw [upd_ne (ne_of_none (x b u h) n)]; exact x b u h
theorem Kp.free {H H1 : Hp} {p : Addr} (x : Kp H H1) (n : H1 p = none) : H p = none := by
  cases e : H p with
  | none => rfl
  | some o => rw [x p o e] at n; cases n
def sp_l_deck (K : PySem.W.Frag) : Sp := fun vs H Q _ => ∃ (a : Addr) (ns : List Int), vs = [.ref a] ∧ SqL K H a (ns.map V.int) ∧ ∀ (d : Addr) (H' : Hp), Kp H H' → DeckAt H' d → H d = none → Q (.ref d) H'
theorem len_l_deck (vs : List V) (H : Hp) (Q : VK) (E : XK) (h : sp_l_deck K vs H Q E) : vs.length = 1 := by
  obtain ⟨a, n, rfl, _⟩ := h
  rfl
theorem pure_l_deck (vs : List V) (H : Hp) (Q : VK) (E : XK) (h : sp_l_deck K vs H Q E) : t_l_deck K { nx := fun _ H' => Q .non H', rt := Q } (startN 5 vs) H := by
  obtain ⟨a, ns, rfl, hs, q⟩ := h
  show t_l_deck K _ [some (.ref a), none, none, none, none] H
  unfold t_l_deck
  walk_at "rd"
  refine ⟨a, _, rfl, .inl hs, ?_⟩
  walk_at "rd"
  refine ⟨.inl ⟨by decide, by decide⟩, ?_⟩
  refine ⟨a, _, rfl, hs, fun p hp => ?_⟩
  walk_at "rd"
  refine ⟨⟨_, SqL.of upd_same⟩, ?_⟩
  refine fb_list (fun i σ H1 => Kp H H1 ∧ H1 p = some (.lst (cutV (ns.map V.int) none (some 60))) ∧ ∃ (g m : Int) (x y : Option V), σ = [some (.ref a), some (.int g), some (.int m), x, y]) ⟨(show Kp H H from fun _ _ h => h).new hp, upd_same, _, _, _, _, rfl⟩ (fun i σ H1 _ h => SqL.of h.2.1) ?_ ?_
  · rintro i x σ H1 hx ⟨kp, h1, g, m, y, z, rfl⟩
    obtain ⟨n, rfl⟩ : ∃ n : Int, x = .int n := by
      have hm : x ∈ ns.map V.int := List.mem_of_mem_drop (List.mem_of_mem_take (List.mem_of_getElem? hx))
      obtain ⟨n, _, e⟩ := List.mem_map.mp hm
      exact ⟨n, e.symm⟩
    walk_at "rd"
    refine ⟨.inl ⟨by decide, by decide⟩, .inr ⟨by decide, by decide⟩, by decide, ⟨by decide, by decide, by decide⟩, ?_⟩
    refine ite2 (fun _ => ⟨.inr ⟨by decide, by decide⟩, kp, h1, _, _, _, _, rfl⟩) fun _ => ⟨kp, h1, _, _, _, _, rfl⟩
  · rintro σ H1 ⟨kp, h1, g, m, y, z, rfl⟩
    walk_at "rd"
    refine ⟨by show 3 ≤ sizeLine; decide, fun d hd => q d _ (kp.new hd) ⟨g, m, 0, upd_same⟩ (kp.free hd)⟩

/-! ### names -/
/-- a name: 1 to 8 letters a to z -/
structure IsName (z : Str) : Prop where
  one : 1 ≤ z.length
  eight : z.length ≤ 8
  let_ : ∀ c ∈ z.cps.toList, 97 ≤ c ∧ c ≤ 122
abbrev abc : Str := "abcdefghijklmnopqrstuvwxyz"
theorem abc_at : ∀ k : Fin 26, abc.cps.toList[k.val]? = some (97 + k.val) := by decide +kernel
theorem abc_ix {d : Int} (h0 : 0 ≤ d) (h1 : d < 26) : atI abc.cps.toList d = some (97 + d.toNat) := by
  obtain ⟨k, rfl⟩ : ∃ k : Nat, d = (k : Int) := ⟨d.toNat, by omega⟩
  exact atI_nat (abc_at ⟨k, by omega⟩)
theorem o_ixS {z : Str} {i : Int} {c : Nat} {H : Hp} {Q : VK} (hz : z.length ≤ sizeLine) (e : atI z.cps.toList i = some c) (q : Q (.str ⟨#[c]⟩) H) : rIxS (.str z) (.int i) H Q := ⟨z, i, c, rfl, rfl, hz, e, q⟩
theorem joinL_nil : ∀ ps : List (List Nat), joinL [] ps = ps.flatten
  | [] => rfl
  | [p] => by simp [joinL]
  | p :: q :: r => by
    show p ++ ([] ++ joinL [] (q :: r)) = _
    rw [joinL_nil (q :: r)]
    simp
theorem join_nil (ys : List Str) : (Txt.join ("" : Str) ys).cps.toList = (ys.map fun y => y.cps.toList).flatten := by
  rw [join_eq]
  have h := tl_join ("" : Str) ys
  have e : tl ("" : Str) = [] := by decide +kernel
  rw [e, joinL_nil] at h
  exact h
def sp_l_name : Sp := fun vs H Q _ => ∃ (a : Addr), vs = [.ref a] ∧ DeckAt H a ∧ ∀ (z : Str) (H' : Hp), IsName z → Dk a H H' → Q (.str z) H'
theorem len_l_name (vs : List V) (H : Hp) (Q : VK) (E : XK) (h : sp_l_name vs H Q E) : vs.length = 1 := by
  obtain ⟨a, rfl, _⟩ := h
  rfl
theorem o_draw {a : Addr} {n : Int} {H : Hp} {Q : VK} {E : XK} (hd : DeckAt H a) (h0 : 0 < n) (h1 : n < 1073741824) (q : ∀ (d : Int) (H' : Hp), 0 ≤ d → d < n → Dk a H H' → Q (.int d) H') : sp_l_draw [.ref a, .int n] H Q E := ⟨a, n, rfl, hd, h0, h1, q⟩
theorem one_letters {ys : List Str} (h : ∀ y ∈ ys, ∃ c, y = ⟨#[c]⟩ ∧ 97 ≤ c ∧ c ≤ 122) : (Txt.join ("" : Str) ys).length = ys.length ∧ ∀ c ∈ (Txt.join ("" : Str) ys).cps.toList, 97 ≤ c ∧ c ≤ 122 := by
  refine ⟨?_, fun c hc => ?_⟩
  · show (Txt.join ("" : Str) ys).cps.size = _
    rw [← Array.length_toList, join_nil]
    induction ys with
    | nil => rfl
    | cons y ys ih =>
      obtain ⟨c, rfl, _⟩ := h y (List.mem_cons_self ..)
      rw [List.map_cons, List.flatten_cons, List.length_append, ih fun y hy => h y (List.mem_cons_of_mem _ hy), List.length_cons]
      show 1 + ys.length = ys.length + 1
      omega
  · rw [join_nil] at hc
    obtain ⟨l, hl, hc⟩ := List.mem_flatten.mp hc
    obtain ⟨y, hy, rfl⟩ := List.mem_map.mp hl
    obtain ⟨d, rfl, h1, h2⟩ := h y hy
    have e : c = d := by simpa using hc
    rw [e]; exact ⟨h1, h2⟩
theorem one_sum : ∀ {ys : List Str}, (∀ y ∈ ys, ∃ c, y = ⟨#[c]⟩ ∧ 97 ≤ c ∧ c ≤ 122) → (ys.map (·.length)).sum = ys.length
  | [], _ => rfl
  | y :: ys, h => by
    obtain ⟨c, rfl, _⟩ := h y (List.mem_cons_self ..)
    rw [List.map_cons, List.sum_cons, one_sum fun y hy => h y (List.mem_cons_of_mem _ hy), List.length_cons]
    show 1 + ys.length = ys.length + 1
    omega
theorem pure_l_name (vs : List V) (H : Hp) (Q : VK) (E : XK) (h : sp_l_name vs H Q E) : t_l_name K { nx := fun _ H' => Q .non H', rt := Q } (startN 3 vs) H := by
  obtain ⟨a, rfl, hd, q⟩ := h
  show t_l_name K _ [some (.ref a), none, none] H
  unfold t_l_name
  walk_at "rd"
  refine ⟨⟨_, rfl⟩, o_draw hd (by decide) (by decide) fun d H1 h0 h1 k => ?_⟩
  walk_at "rd"
  refine ⟨by omega, by omega, ?_⟩
  refine lb_walk walk_range (fun D i H2 => Dk a H H2 ∧ ∃ ys : List Str, ys.length = i ∧ H2 D = some (.lst (ys.map V.str)) ∧ H1 D = none ∧ ∀ y ∈ ys, ∃ c, y = ⟨#[c]⟩ ∧ 97 ≤ c ∧ c ≤ 122) ?_ (fun _ _ _ _ _ => trivial) ?_ ?_
  · intro D hD
    exact ⟨k.new hD, [], rfl, upd_same, hD, by simp⟩
  · rintro D i x H2 H3 hi ⟨k2, ys, hl, h2, hD, hy⟩ ⟨rfl, rfl⟩
    have ha : a ≠ D := by
      obtain ⟨g, m, c, e⟩ := k.deck
      exact ne_of_none e hD
    walk_at "rd"
    refine o_draw k2.deck (by decide) (by decide) fun e H4 h0 h1 k4 => ?_
    refine o_ixS (by decide) (abc_ix h0 h1) ⟨_, k4.keep _ _ h2 ha.symm, ?_, ?_⟩
    · rw [List.length_map, hl]; exact small1000 (by omega)
    · refine ⟨?_, ys ++ [⟨#[97 + e.toNat]⟩], by simp [hl], by rw [upd_same]; simp, hD, ?_⟩
      · have k5 := k2.trans k4
        refine ⟨fun b o h nb => ?_, ?_⟩
        · have n : b ≠ D := ne_of_none (k.keep b o h nb) hD
          rw [upd_ne n]; exact k5.keep b o h nb
        · obtain ⟨g, m, c, e⟩ := k5.deck
          exact ⟨g, m, c, by rw [upd_ne ha]; exact e⟩
      · intro y hy'
        rcases List.mem_append.mp hy' with h | h
        · exact hy y h
        · have e2 := List.mem_singleton.mp h
          exact ⟨_, e2, by omega, by omega⟩
  · rintro D H2 hD ⟨k2, ys, hl, h2, _, hy⟩
    obtain ⟨l, c⟩ := one_letters hy
    refine ⟨_, D, ys, rfl, rfl, .inl (SqL.of h2), ?_, q _ _ ⟨?_, ?_, c⟩ k2⟩
    · have e : (("" : Str)).length = 0 := by decide +kernel
      rw [e, one_sum hy]; omega
    · omega
    · omega
end
end Tw
set_option Elab.async false
set_option linter.all false
set_option maxRecDepth 100000
set_option maxHeartbeats 4000000
namespace Tw
open PySem PySem.Spec PyProof.Rows L2 TL
abbrev rRepStr : R2 := fun x y H Q => ∃ z n, x = .str z ∧ y = .int n ∧ MulOk z n ∧ Q (.str (Txt.mul z n)) H
theorem op_rep_str {X : Cx} : OpR X (binaryOp .Mult) rRepStr := by
  intro pins s σ H x y v u Q I rx ry h
  obtain ⟨z, n, rfl, rfl, ok, q⟩ := h
  obtain ⟨t, rfl⟩ := rx
  obtain ⟨t', rfl⟩ := ry
  exact SB.mul ok fun t' k => ⟨.str (Txt.mul z n), H, I.tok _, ⟨_, rfl⟩, q⟩
theorem o_par3 {i j l : Nat} {ta : TA} {D : Ends} {σ : L2.St} {H : Hp} : tPar3 i j l ta D σ H = ta σ H fun vs H1 => ∃ u v w, vs = [u, v, w] ∧ D.nx (((σ.set i (some u)).set j (some v)).set l (some w)) H1 := rfl
theorem e_three {a b c : V} {P : V → V → V → Prop} : (∃ u v w, [a, b, c] = [u, v, w] ∧ P u v w) = P a b c := by
  apply propext; constructor
  · rintro ⟨c, d, e, h, q⟩; cases h; exact q
  · intro q; exact ⟨a, b, c, rfl, q⟩
end Tw
namespace Tw
open PySem PySem.Spec PyProof.Rows L2 TL
local macro_rules | `(tactic| walk_at "rd") => `(tactic| try simp only [o_op, o_un, o_var, o_c, o_cb, o_call, o_cons, o_nil, o_tup, o_lst, o_I0, o_I, o_int1, o_intb, o_abs, o_test, o_b, o_not, o_and, o_or, o_andV, o_orV, o_notV, o_ifE, o_isN, o_notN, o_eq, o_ne, o_seq, o_next, o_asg, o_name, o_sub, o_par, o_par3, o_drop, o_ret, o_retN, o_ifS, o_sl, o_noPart, o_part, o_bm, o_bm0, o_m0, o_m1, e_bl, e_int, e_str, e_some, e_two, e_three, o_for, o_lc, o_iList, o_iTup, o_iRng1, e_int1, e_ref, o_yes, o_wipe0, o_wipe1, true_and, if_pos, List.getElem?_cons_zero, List.getElem?_cons_succ, List.set_cons_zero, List.set_cons_succ, List.append_nil])
def t_l_names_b1 (K : PySem.W.Frag) : TS :=
  (tSeq (tAsg (tOp (rIxL K) (tVar 3) (tVar 7)) (gName 11))
  (tAsg (tOp (rI0 fun i j => .int (i + j)) (tVar 7) (tC (.int 1))) (gName 7)))
def t_l_names_r1 (K : PySem.W.Frag) : TS :=
  (tSeq (tWhile (tTest (tOp (rIn K false) (tVar 11) (tVar 8)))
  (t_l_names_b1 K))
  (tDrop (tBM K "list" rAppend (tVar 8) (tCons (tVar 11) tNil))))
def t_l_names_r2 (K : PySem.W.Frag) : TS :=
  (C8.tCut (tIfS (tTest (tOp rEq (tVar 10) (tC (.int 0)))) (tAsg (tCall sp_l_name [] E0 (tCons (tVar 0) tNil)) (gName 11)) (tIfS (tTest (tOp rEq (tVar 10) (tC (.int 1)))) (tAsg (tOp rAddStr (tOp rAddStr (L2.tSl rSlS (tVar 5) tNoPart (tPart (tVar 6))) (tOp rIxS (tVar 2) (tCall sp_l_draw [] E0 (tCons (tVar 0) (tCons (tC (.int 26)) tNil))))) (L2.tSl rSlS (tVar 5) (tPart (tOp (rI0 fun i j => .int (i + j)) (tVar 6) (tC (.int 1)))) tNoPart)) (gName 11)) (tAsg (L2.tSl rSlS (tVar 5) tNoPart (tPart (tOp (rI0 fun i j => .int (i + j)) (tC (.int 1)) (tCall sp_l_draw [] E0 (tCons (tVar 0) (tCons (tC (.int 8)) tNil)))))) (gName 11))))
  (t_l_names_r1 K))
def t_l_names_b2 (K : PySem.W.Frag) : TS :=
  (C8.tCut (tAsg (tIf (tTest (tOp rEq (tVar 4) (tC (.int 3)))) (tCall sp_l_draw [] E0 (tCons (tVar 0) (tCons (tC (.int 3)) tNil))) (tVar 4)) (gName 10))
  (t_l_names_r2 K))
def t_l_names (K : PySem.W.Frag) : TS :=
  (tSeq (tAsg (tC (.str "abcdefghijklmnopqrstuvwxyz")) (gName 2))
  (tSeq (tAsg (tLc (iRng1 (tCons (tC (.int 676)) tNil)) (gName 9) tYes (tOp rAddStr (tOp rIxS (tVar 2) (tOp (rI CDiv fun i j => .int (i / j)) (tVar 9) (tC (.int 26)))) (tOp rIxS (tVar 2) (tOp (rI (fun _ j => 0 < j) fun i j => .int (i % j)) (tVar 9) (tC (.int 26))))) [9]) (gName 3))
  (tSeq (tPar 4 5 (tCons (tCall sp_l_draw [] E0 (tCons (tVar 0) (tCons (tC (.int 4)) tNil))) (tCons (L2.tSl rSlS (tOp rRepStr (tCall sp_l_name [] E0 (tCons (tVar 0) tNil)) (tC (.int 8))) tNoPart (tPart (tC (.int 8)))) tNil)))
  (tSeq (tPar3 6 7 8 (tCons (tCall sp_l_draw [] E0 (tCons (tVar 0) (tCons (tC (.int 8)) tNil))) (tCons (tC (.int 0)) (tCons (tLst tNil) tNil))))
  (tSeq (tFor (iRng1 (tCons (tVar 1) tNil)) (gName 9)
  (t_l_names_b2 K))
  (tRet (tVar 8)))))))
section
variable {K : PySem.W.Frag}
/-! texts of letters -/
def Lets (l : List Nat) : Prop := ∀ c ∈ l, 97 ≤ c ∧ c ≤ 122
theorem IsName.of {z : Str} {l : List Nat} (e : z.cps.toList = l) (h : Lets l) (h1 : 1 ≤ l.length) (h8 : l.length ≤ 8) : IsName z := by
  have hz : z.length = l.length := by show z.cps.size = _; rw [← Array.length_toList, e]
  exact ⟨by omega, by omega, by rw [e]; exact h⟩
theorem IsName.lets {z : Str} (h : IsName z) : Lets z.cps.toList := h.let_
theorem len_tl (z : Str) : z.length = z.cps.toList.length := (Array.length_toList).symm
theorem tl_cut (z : Str) (lo hi : Option Int) : (cutS z lo hi).cps.toList = (z.cps.toList.drop (HT.sIx z.length 0 lo)).take (HT.sIx z.length z.length hi - HT.sIx z.length 0 lo) := rfl
theorem tl_app (x y : Str) : (x ++ y).cps.toList = x.cps.toList ++ y.cps.toList := Array.toList_append
theorem foldl_app (xs : List (Array Nat)) : ∀ a : Array Nat, (xs.foldl (· ++ ·) a).toList = a.toList ++ (xs.map Array.toList).flatten := by
  induction xs with
  | nil => intro a; simp
  | cons x xs ih => intro a; rw [List.foldl_cons, ih]; simp
theorem tl_mul8 {z : Str} (h : 1 ≤ z.length) : (Txt.mul z 8).cps.toList = (List.replicate 8 z.cps.toList).flatten := by
  unfold Txt.mul
  rw [if_neg (by omega)]
  have e : ((8 : Int) == 1 || z.length == 0) = false := by
    rw [Bool.or_eq_false_iff]; exact ⟨by decide, by simpa using (by omega : z.length ≠ 0)⟩
  rw [e, if_neg (by decide)]
  show ((List.replicate 8 z.cps).foldl (· ++ ·) #[]).toList = _
  rw [foldl_app]; simp
theorem mulOk8 {z : Str} (h : z.length ≤ 8) : MulOk z 8 := by
  refine ⟨by decide, fun _ _ => ?_, fun _ _ => ?_⟩
  · have e : ((2 : Int) ^ 63 - 1) / 8 = 1152921504606846975 := by decide
    rw [e]; omega
  · rw [show (8 : Int).toNat = 8 from rfl]
    show decide _ = false
    have := sizeLine_eq; exact decide_eq_false (by omega)

/-! spare names -/
def spareS (k : Nat) : Str := ⟨#[97 + k / 26, 97 + k % 26]⟩
theorem spare_name {k : Nat} (h : k < 676) : IsName (spareS k) := by
  refine IsName.of (l := [97 + k / 26, 97 + k % 26]) rfl ?_ (by simp) (by simp)
  intro c hc
  simp only [List.mem_cons, List.not_mem_nil, or_false] at hc
  omega
theorem spare_inj {j k : Nat} (h : spareS j = spareS k) : j = k := by
  have e : [97 + j / 26, 97 + j % 26] = [97 + k / 26, 97 + k % 26] := congrArg (fun z : Str => z.cps.toList) h
  simp only [List.cons.injEq, and_true] at e
  omega
theorem spares_nodup : ∀ n, ((List.range n).map spareS).Nodup := fun n =>
  (List.nodup_range).map _ fun a b h e => h (spare_inj e)
theorem spares_le {t : Nat} {zs : List Str} (h : ∀ j, j < t → spareS j ∈ zs) : t ≤ zs.length := by
  have q := length_le_of_nodup_of_subset _ zs (spares_nodup t) fun a ha => by
    obtain ⟨j, hj, rfl⟩ := List.mem_map.mp ha
    exact h j (List.mem_range.mp hj)
  simpa using q
/-! in over texts -/
theorem inV_str (z : Str) (zs : List Str) : inV (.str z) (zs.map V.str) = decide (z ∈ zs) := by
  unfold inV
  induction zs with
  | nil => rfl
  | cons y ys ih =>
    rw [List.map_cons, List.any_cons, ih]
    show (y == z || _) = _
    by_cases h : y = z
    · subst h; simp
    · have h2 : (y == z) = false := by simpa using h
      have h3 : ¬ z = y := fun e => h e.symm
      rw [h2]; simp [h3]
theorem flat_strs (zs : List Str) : (zs.map V.str).all flatV = true := by simp [List.all_eq_true, flatV]
def sp_l_names : Sp := fun vs H Q _ => ∃ (a : Addr) (n : Int), vs = [.ref a, .int n] ∧ DeckAt H a ∧ 0 ≤ n ∧ n ≤ 300 ∧
  ∀ (p : Addr) (zs : List Str) (H' : Hp), H p = none → Dk a H H' → H' p = some (.lst (zs.map V.str)) → (zs.length : Int) = n → zs.Nodup → (∀ z ∈ zs, IsName z) → Q (.ref p) H'
theorem len_l_names (vs : List V) (H : Hp) (Q : VK) (E : XK) (h : sp_l_names vs H Q E) : vs.length = 2 := by
  obtain ⟨a, n, rfl, _⟩ := h
  rfl
theorem o_namer {a : Addr} {H : Hp} {Q : VK} {E : XK} (hd : DeckAt H a) (q : ∀ (z : Str) (H' : Hp), IsName z → Dk a H H' → Q (.str z) H') : sp_l_name [.ref a] H Q E := ⟨a, rfl, hd, q⟩
theorem nodup_snoc {α : Type} [DecidableEq α] {l : List α} {x : α} (h : l.Nodup) (hx : x ∉ l) : (l ++ [x]).Nodup := by
  rw [List.nodup_append]
  refine ⟨h, by simp, fun a ha b hb e => hx ?_⟩
  rw [← List.mem_singleton.mp hb, ← e]; exact ha
/-- the deck at a and the list at ns have changed, no more -/
structure Dk2 (a ns : Addr) (H H' : Hp) : Prop where
  keep : ∀ b o, H b = some o → b ≠ a → b ≠ ns → H' b = some o
  deck : DeckAt H' a
theorem o_isIn {p : Addr} {zs : List Str} {z : Str} {H : Hp} {Q : VK} (h : H p = some (.lst (zs.map V.str))) (q : Q (.bl (decide (z ∈ zs))) H) : rIn K false (.str z) (.ref p) H Q :=
  ⟨p, _, rfl, .inl (SqL.of h), rfl, flat_strs zs, by rw [if_neg (by decide), inV_str]; exact q⟩
theorem names_r1 {H : Hp} {D : Ends} {sp ns a : Addr} {zs : List Str} {t : Nat} {z : Str} {x0 x1 x2 x4 x5 x6 x9 x10 : Option V} (hd : DeckAt H a) (hna : ns ≠ a) (hnD : ns ≠ sp)
    (s5 : H sp = some (.lst ((List.range 676).map fun k => V.str (spareS k)))) (n5 : H ns = some (.lst (zs.map V.str))) (nd : zs.Nodup) (hspr : ∀ j, j < t → spareS j ∈ zs) (hl : zs.length < 300) (hz : IsName z)
    (q : ∀ (H' : Hp) (t' : Nat) (z' : Str), Dk2 a ns H H' → z' ∉ zs → IsName z' → (∀ j, j < t' → spareS j ∈ zs ++ [z']) → H' ns = some (.lst ((zs ++ [z']).map V.str)) → D.nx [x0, x1, x2, some (.ref sp), x4, x5, x6, some (.int t'), some (.ref ns), x9, x10, some (.str z')] H') :
    t_l_names_r1 K D [x0, x1, x2, some (.ref sp), x4, x5, x6, some (.int t), some (.ref ns), x9, x10, some (.str z)] H := by
  unfold t_l_names_r1
  walk_at "rd"
  refine ⟨fun m σ H' => H' = H ∧ ∃ (t : Nat) (z : Str), IsName z ∧ (∀ j, j < t → spareS j ∈ zs ∨ spareS j = z) ∧ t ≤ 301 ∧ m = 1000 - t ∧ σ = [x0, x1, x2, some (.ref sp), x4, x5, x6, some (.int t), some (.ref ns), x9, x10, some (.str z)],
    ⟨_, rfl, t, z, hz, fun j h => .inl (hspr j h), by have := spares_le hspr; omega, rfl, rfl⟩, ?_⟩
  rintro m σ H1 ⟨rfl, t, z, hz, hs, ht, rfl, rfl⟩
  walk_at "rd"
  refine o_isIn n5 ?_
  walk_at "rd"
  refine ite2 (fun hin => ?_) (fun hin => ?_)
  · have hin : z ∈ zs := of_decide_eq_true hin
    have hs' : ∀ j, j < t → spareS j ∈ zs := fun j hj => by
      rcases hs j hj with h | h
      · exact h
      · rw [h]; exact hin
    have hle := spares_le hs'
    refine ⟨fun σ' H' => ∃ m', m' < 1000 - t ∧ H' = H1 ∧ ∃ (t : Nat) (z : Str), IsName z ∧ (∀ j, j < t → spareS j ∈ zs ∨ spareS j = z) ∧ t ≤ 301 ∧ m' = 1000 - t ∧ σ' = [x0, x1, x2, some (.ref sp), x4, x5, x6, some (.int t), some (.ref ns), x9, x10, some (.str z)], fun _ _ h => h, ?_⟩
    unfold t_l_names_b1
    walk_at "rd"
    refine o_ixL s5 (v := .str (spareS t)) (atI_nat (by rw [List.getElem?_map, List.getElem?_range (by omega)]; rfl)) ?_
    walk_at "rd"
    refine ⟨1000 - (t + 1), by omega, t + 1, spareS t, spare_name (by omega), fun j hj => ?_, by omega, rfl, rfl⟩
    by_cases e : j = t
    · exact .inr (by rw [e])
    · exact .inl (hs' j (by omega))
  · have hin : z ∉ zs := fun h => hin (decide_eq_true h)
    refine ⟨.inl ⟨rfl, _, SqL.of n5⟩, ns, _, _, rfl, rfl, n5, by rw [List.length_map]; exact small1000 (by omega), ?_⟩
    refine q _ t z ⟨fun b o e nb n2 => by rw [upd_ne n2]; exact e, ?_⟩ hin hz (fun j hj => ?_) (by rw [upd_same]; simp)
    · obtain ⟨g, m, c, e⟩ := hd
      exact ⟨g, m, c, by rw [upd_ne hna.symm]; exact e⟩
    · rcases hs j hj with h | h
      · exact List.mem_append_left _ h
      · rw [h]; exact List.mem_append_right _ (List.mem_singleton.mpr rfl)
theorem names_b2 {H : Hp} {D : Ends} {sp ns a : Addr} {zs : List Str} {t : Nat} {base : Str} {n way place : Int} {x9 x10 x11 : Option V} {i : V} (hd : DeckAt H a) (hna : ns ≠ a) (hnD : ns ≠ sp)
    (s5 : H sp = some (.lst ((List.range 676).map fun k => V.str (spareS k)))) (n5 : H ns = some (.lst (zs.map V.str))) (nd : zs.Nodup) (hnm : ∀ z ∈ zs, IsName z) (hspr : ∀ j, j < t → spareS j ∈ zs) (hl : zs.length < 300)
    (hbl : base.cps.toList.length = 8) (hbt : Lets base.cps.toList) (p0 : 0 ≤ place) (p1 : place < 8)
    (q : ∀ (H' : Hp) (t' : Nat) (z' : Str) (kd : V), Dk2 a ns H H' → z' ∉ zs → IsName z' → (∀ j, j < t' → spareS j ∈ zs ++ [z']) → H' ns = some (.lst ((zs ++ [z']).map V.str)) → D.nx [some (.ref a), some (.int n), some (.str abc), some (.ref sp), some (.int way), some (.str base), some (.int place), some (.int t'), some (.ref ns), some i, some kd, some (.str z')] H') :
    gName 9 i [some (.ref a), some (.int n), some (.str abc), some (.ref sp), some (.int way), some (.str base), some (.int place), some (.int t), some (.ref ns), x9, x10, x11] H fun σ2 H2 => t_l_names_b2 K D σ2 H2 := by
  unfold t_l_names_b2
  walk_at "rd"
  refine ⟨fun σ' H' => Dk a H H' ∧ ∃ kd : V, (∃ k : Int, kd = .int k) ∧ σ' = [some (.ref a), some (.int n), some (.str abc), some (.ref sp), some (.int way), some (.str base), some (.int place), some (.int t), some (.ref ns), some i, some kd, x11], ?_, ?_⟩
  · walk_at "rd"
    refine ⟨rfl, ite2 (fun _ => ?_) fun _ => ⟨Dk.refl hd, _, ⟨_, rfl⟩, rfl⟩⟩
    exact o_draw hd (by decide) (by decide) fun d H1 _ _ k => ⟨k, _, ⟨_, rfl⟩, rfl⟩
  rintro σ' H1 ⟨k1, kd, ⟨kd, rfl⟩, rfl⟩
  unfold t_l_names_r2
  walk_at "rd"
  refine ⟨fun σ' H' => Dk a H1 H' ∧ ∃ z, IsName z ∧ σ' = [some (.ref a), some (.int n), some (.str abc), some (.ref sp), some (.int way), some (.str base), some (.int place), some (.int t), some (.ref ns), some i, some (.int kd), some (.str z)], ?_, ?_⟩
  · have hz := sizeLine_eq
    have hb8 : base.length = 8 := by rw [len_tl]; exact hbl
    walk_at "rd"
    refine ⟨rfl, ite2 (fun _ => ?_) fun _ => ⟨rfl, ite2 (fun _ => ?_) fun _ => ?_⟩⟩
    · exact o_namer k1.deck fun z H2 h k => ⟨k, z, h, rfl⟩
    · refine ⟨_, rfl, by omega, ?_⟩
      walk_at "rd"
      refine o_draw k1.deck (by decide) (by decide) fun d H2 d0 d1 k2 => ?_
      refine o_ixS (by decide) (abc_ix d0 d1) ?_
      have l1 : (cutS base none (some place)).cps.toList = base.cps.toList.take place.toNat := by
        rw [tl_cut, show (some place) = some ((place.toNat : Nat) : Int) from by rw [Int.toNat_of_nonneg p0], HT.sIx_nat, HT.sIx_none, hb8, List.drop_zero, Nat.sub_zero, Nat.min_eq_left (by omega)]
      have l2 : (cutS base (some (place + 1)) none).cps.toList = base.cps.toList.drop (place.toNat + 1) := by
        rw [tl_cut, show (some (place + 1)) = some ((place.toNat + 1 : Nat) : Int) from by congr 1; omega, HT.sIx_nat, HT.sIx_none, hb8, Nat.min_eq_left (by omega), List.take_of_length_le]
        rw [List.length_drop, hbl]; omega
      have n1 : (cutS base none (some place)).length = place.toNat := by rw [len_tl, l1, List.length_take, hbl]; omega
      have n2 : (cutS base (some (place + 1)) none).length = 7 - place.toNat := by rw [len_tl, l2, List.length_drop, hbl]; omega
      have n3 : (cutS base none (some place) ++ (⟨#[97 + d.toNat]⟩ : Str)).length = place.toNat + 1 := by rw [len_tl, tl_app, l1]; simp [hbl]; omega
      refine ⟨_, _, rfl, rfl, by rw [n1]; show _ + 1 ≤ _; omega, ?_⟩
      refine ⟨_, rfl, by omega, ?_⟩
      refine ⟨_, _, rfl, rfl, by rw [n2, n3]; omega, k2, _, ?_, rfl⟩
      refine IsName.of (l := base.cps.toList.take place.toNat ++ [97 + d.toNat] ++ base.cps.toList.drop (place.toNat + 1)) ?_ ?_ ?_ ?_
      · rw [tl_app, tl_app, l1, l2]
      · intro c hc
        rcases List.mem_append.mp hc with h | h
        · rcases List.mem_append.mp h with h | h
          · exact hbt c (List.mem_of_mem_take h)
          · have := List.mem_singleton.mp h; omega
        · exact hbt c (List.mem_of_mem_drop h)
      · simp [hbl]; omega
      · simp [hbl]; omega
    · refine o_draw k1.deck (by decide) (by decide) fun d H2 d0 d1 k2 => ?_
      walk_at "rd"
      refine ⟨_, rfl, by omega, k2, _, ?_, rfl⟩
      have l1 : (cutS base none (some (1 + d))).cps.toList = base.cps.toList.take (1 + d.toNat) := by
        rw [tl_cut, show (some (1 + d)) = some ((1 + d.toNat : Nat) : Int) from by congr 1; omega, HT.sIx_nat, HT.sIx_none, hb8, List.drop_zero, Nat.sub_zero, Nat.min_eq_left (by omega)]
      refine IsName.of l1 (fun c hc => hbt c (List.mem_of_mem_take hc)) ?_ ?_
      · rw [List.length_take, hbl]; omega
      · rw [List.length_take, hbl]; omega
  rintro σ' H2 ⟨k2, z, hz, rfl⟩
  have k3 := k1.trans k2
  have hsa : sp ≠ a := fun e => by
    obtain ⟨g, m, c, e2⟩ := hd
    rw [e, e2] at s5; cases s5
  refine names_r1 k3.deck hna hnD (k3.keep _ _ s5 hsa) (k3.keep _ _ n5 hna) nd hspr hl hz fun H3 t' z' k4 h1 h2 h3 h4 => ?_
  exact q H3 t' z' _ ⟨fun b o e nb n2 => k4.keep b o (k3.keep b o e nb) nb n2, k4.deck⟩ h1 h2 h3 h4
theorem pure_l_names (vs : List V) (H : Hp) (Q : VK) (E : XK) (h : sp_l_names vs H Q E) : t_l_names K { nx := fun _ H' => Q .non H', rt := Q } (startN 12 vs) H := by
  obtain ⟨a, n, rfl, hd, hn0, hn, q⟩ := h
  show t_l_names K _ [some (.ref a), some (.int n), none, none, none, none, none, none, none, none, none, none] H
  unfold t_l_names
  walk_at "rd"
  refine ⟨by decide, by decide, ?_⟩
  refine lb_walk walk_range (fun D i H2 => H D = none ∧ Kp H H2 ∧ H2 D = some (.lst ((List.range i).map fun k => V.str (spareS k)))) ?_ (fun _ _ _ _ _ => trivial) ?_ ?_
  · intro D hD
    exact ⟨hD, (show Kp H H from fun _ _ h => h).new hD, upd_same⟩
  · rintro D i x H2 H3 hi ⟨hD, kp, h2⟩ ⟨rfl, rfl⟩
    walk_at "rd"
    have hi2 : i < 676 := hi
    refine ⟨⟨by decide, by decide⟩, ?_⟩
    refine o_ixS (by decide) (abc_ix (by omega) (by omega)) ?_
    refine ⟨by decide, ?_⟩
    refine o_ixS (by decide) (abc_ix (by omega) (by omega)) ?_
    refine ⟨_, _, rfl, rfl, (by show 2 ≤ sizeLine; decide), ?_⟩
    refine ⟨_, h2, ?_, ?_⟩
    · simp only [List.length_map, List.length_range]; exact small1000 (by omega)
    · refine ⟨hD, fun b o e => ?_, ?_⟩
      · rw [upd_ne (ne_of_none e hD)]; exact kp b o e
      · rw [upd_same, List.range_succ, List.map_append]
        have e : (⟨#[97 + ((0 + (i : Int)) / 26).toNat]⟩ : Str) ++ ⟨#[97 + ((0 + (i : Int)) % 26).toNat]⟩ = spareS i := by
          show (⟨#[97 + ((0 + (i : Int)) / 26).toNat, 97 + ((0 + (i : Int)) % 26).toNat]⟩ : Str) = ⟨#[97 + i / 26, 97 + i % 26]⟩
          have h1 : ((0 + (i : Int)) / 26).toNat = i / 26 := by omega
          have h2 : ((0 + (i : Int)) % 26).toNat = i % 26 := by omega
          rw [h1, h2]
        rw [e]; rfl
  · rintro D H1 - ⟨hD, kp1, hsp⟩
    have ha : a ≠ D := by
      obtain ⟨g, m, c, e⟩ := hd
      exact ne_of_none e hD
    have hd1 : DeckAt H1 a := by
      obtain ⟨g, m, c, e⟩ := hd
      exact ⟨g, m, c, kp1 _ _ e⟩
    refine o_draw hd1 (by decide) (by decide) fun way H2 w0 w1 k2 => ?_
    refine o_namer k2.deck fun b0 H3 hb0 k3 => ?_
    refine ⟨_, _, rfl, rfl, mulOk8 hb0.eight, ?_⟩
    have hl0 : b0.cps.toList.length = b0.length := (len_tl b0).symm
    have hm8 := tl_mul8 hb0.one
    have hml : (Txt.mul b0 8).length = 8 * b0.length := by
      rw [len_tl, hm8]; simp [hl0]; omega
    have h1 := hb0.one
    have h8 := hb0.eight
    have hz := sizeLine_eq
    refine ⟨_, rfl, by omega, ?_⟩
    -- the base: eight letters
    have hbl : (cutS (Txt.mul b0 8) none (some 8)).cps.toList.length = 8 := by
      rw [tl_cut, show (some (8 : Int)) = some ((8 : Nat) : Int) from rfl, HT.sIx_nat, HT.sIx_none, List.length_take, List.length_drop, ← len_tl]
      omega
    have hbt : Lets (cutS (Txt.mul b0 8) none (some 8)).cps.toList := by
      intro c hc
      have h2 := List.mem_of_mem_drop (List.mem_of_mem_take hc)
      rw [hm8] at h2
      obtain ⟨l, hl, hc2⟩ := List.mem_flatten.mp h2
      rw [List.eq_of_mem_replicate hl] at hc2
      exact hb0.let_ c hc2
    generalize cutS (Txt.mul b0 8) none (some 8) = base at hbl hbt ⊢
    walk_at "rd"
    refine o_draw k3.deck (by decide) (by decide) fun place H4 p0 p1 k4 => ?_
    refine ⟨by decide, fun ns hns => ?_⟩
    refine ⟨by omega, by omega, ?_⟩
    have kk4 : Dk a H1 H4 := (k2.trans k3).trans k4
    have kH : Dk a H H1 := ⟨fun b o e _ => kp1 b o e, hd1⟩
    have kk : Dk a H H4 := kH.trans kk4
    have hsp4 : H4 D = some (.lst ((List.range 676).map fun k => V.str (spareS k))) := kk4.keep _ _ hsp ha.symm
    have hnD : ns ≠ D := fun e => by rw [e, hsp4] at hns; cases hns
    have hna : ns ≠ a := fun e => by
      obtain ⟨g, m, c, e2⟩ := kk4.deck
      rw [e, e2] at hns; cases hns
    have hnH : H ns = none := by
      cases e : H ns with
      | none => rfl
      | some o => rw [kk.keep ns o e hna] at hns; cases hns
    refine fb_range (fun i σ H5 => Dk a H H5 ∧ H5 D = some (.lst ((List.range 676).map fun k => V.str (spareS k))) ∧ ∃ (t : Nat) (zs : List Str) (x y z : Option V), H5 ns = some (.lst (zs.map V.str)) ∧ zs.length = i ∧ zs.Nodup ∧ (∀ z ∈ zs, IsName z) ∧ (∀ j, j < t → spareS j ∈ zs) ∧
        σ = [some (.ref a), some (.int n), some (.str abc), some (.ref D), some (.int way), some (.str base), some (.int place), some (.int t), some (.ref ns), x, y, z]) ?_ ?_ ?_
    · refine ⟨kk.new hns, by rw [upd_ne hnD.symm]; exact hsp4, 0, [], _, _, _, upd_same, rfl, List.nodup_nil, by simp, by simp, rfl⟩
    · rintro i σ H5 hi ⟨k5, s5, t, zs, x, y, z, n5, hlen, nd, hnm, hspr, rfl⟩
      refine names_b2 k5.deck hna hnD s5 n5 nd hnm hspr (by omega) hbl hbt p0 p1 fun H6 t' z' kd k6 hz1 hz2 hsp6 hn6 => ?_
      refine ⟨⟨fun b o e nb => ?_, k6.deck⟩, ?_, t', zs ++ [z'], _, _, _, hn6, by simp [hlen], nodup_snoc nd hz1, ?_, hsp6, rfl⟩
      · have e2 : b ≠ ns := ne_of_none e hnH
        exact (k6.keep b o (k5.keep b o e nb) nb e2)
      · exact k6.keep _ _ s5 ha.symm hnD.symm
      · intro w hw
        rcases List.mem_append.mp hw with h | h
        · exact hnm w h
        · rw [List.mem_singleton.mp h]; exact hz2
    · rintro σ H5 ⟨k5, s5, t, zs, x, y, z, n5, hlen, nd, hnm, hspr, rfl⟩
      walk_at "rd"
      exact q ns zs H5 hnH k5 n5 (by omega) nd hnm
end
end Tw
set_option Elab.async false
set_option linter.all false
set_option maxRecDepth 100000
set_option maxHeartbeats 4000000
/-! forests: a wood as a plain datum -/
namespace Tw
open PySem PySem.Spec PyProof.Rows L2
/-- a wood: the first tree (its name, the wood in it), the others -/
inductive Fo where
  | nil
  | cons (n : Str) (ks r : Fo)
namespace Fo
def tops : Fo → List Str
  | nil => []
  | cons n _ r => n :: tops r
def nm : Fo → List Str
  | nil => []
  | cons n ks r => n :: (nm ks ++ nm r)
def dp : Fo → Nat
  | nil => 0
  | cons _ ks r => max (dp ks + 1) (dp r)
def data : Fo → List PyData
  | nil => []
  | cons n ks r => .tuple [.str n, .tuple (data ks)] :: data r
def plus (n : Str) : Str := ("+" : Str) ++ n
def minus (n : Str) : Str := ("-" : Str) ++ n
def row : Fo → List Str
  | nil => []
  | cons n ks r => plus n :: (row ks ++ minus n :: row r)
def ftake : Nat → Fo → Fo
  | 0, _ => nil
  | _ + 1, nil => nil
  | k + 1, cons n ks r => cons n ks (ftake k r)
def fdrop : Nat → Fo → Fo
  | 0, f => f
  | _ + 1, nil => nil
  | k + 1, cons _ _ r => fdrop k r
def insTop : Nat → Nat → Str → Fo → Fo
  | 0, tk, x, f => cons x (ftake tk f) (fdrop tk f)
  | _ + 1, tk, x, nil => cons x nil nil
  | k + 1, tk, x, cons n ks r => cons n ks (insTop k tk x r)
def insAt (over : Str) (k tk : Nat) (x : Str) : Fo → Fo
  | nil => nil
  | cons n ks r => if n = over then cons n (insTop k tk x ks) r else cons n (insAt over k tk x ks) (insAt over k tk x r)
def Rep (g : Str → List Str) : Fo → Prop
  | nil => True
  | cons n ks r => g n = tops ks ∧ Rep g ks ∧ Rep g r
/-- e tells how deep each node lies -/
def Dep (e : Str → Nat) : Nat → Fo → Prop
  | _, nil => True
  | l, cons n ks r => e n = l + 1 ∧ Dep e (l + 1) ks ∧ Dep e l r
theorem tops_take : ∀ (k : Nat) (f : Fo), tops (ftake k f) = (tops f).take k
  | 0, _ => by simp [ftake, tops]
  | _ + 1, nil => rfl
  | k + 1, cons n ks r => by simp [ftake, tops, tops_take k r]
theorem tops_drop : ∀ (k : Nat) (f : Fo), tops (fdrop k f) = (tops f).drop k
  | 0, _ => by simp [fdrop]
  | _ + 1, nil => rfl
  | k + 1, cons n ks r => by simp [fdrop, tops, tops_drop k r]
theorem tops_ins : ∀ (k tk : Nat) (x : Str) (f : Fo), k ≤ (tops f).length → tops (insTop k tk x f) = (tops f).take k ++ [x] ++ (tops f).drop (k + tk)
  | 0, tk, x, f, _ => by simp [insTop, tops, tops_drop]
  | k + 1, tk, x, nil, h => by simp [tops] at h
  | k + 1, tk, x, cons n ks r, h => by
    have h' : k ≤ (tops r).length := by simp [tops] at h; omega
    have e : k + 1 + tk = (k + tk) + 1 := by omega
    simp [insTop, tops, tops_ins k tk x r h', e]
theorem nm_split : ∀ (k : Nat) (f : Fo), nm f = nm (ftake k f) ++ nm (fdrop k f)
  | 0, _ => by simp [ftake, fdrop, nm]
  | _ + 1, nil => rfl
  | k + 1, cons n ks r => by simp [ftake, fdrop, nm, nm_split k r]
theorem nm_insTop : ∀ (k tk : Nat) (x : Str) (f : Fo), (nm (insTop k tk x f)).Perm (x :: nm f)
  | 0, tk, x, f => by simp [insTop, nm, ← nm_split]
  | _ + 1, tk, x, nil => by simp [insTop, nm]
  | k + 1, tk, x, cons n ks r => by
    simp only [insTop, nm]
    refine (List.Perm.cons n ((nm_insTop k tk x r).append_left (nm ks))).trans ?_
    refine (List.Perm.cons n List.perm_middle).trans ?_
    exact List.Perm.swap x n _
theorem nm_insAt (over : Str) (k tk : Nat) (x : Str) : ∀ (f : Fo), (nm f).Nodup → over ∈ nm f → (nm (insAt over k tk x f)).Perm (x :: nm f)
  | nil, _, h => by simp [nm] at h
  | cons n ks r, hd, h => by
    simp only [nm, List.nodup_cons, List.nodup_append] at hd
    obtain ⟨hn, d1, d2, dd⟩ := hd
    by_cases e : n = over
    · simp only [insAt, if_pos e, nm]
      refine (List.Perm.cons n ((nm_insTop k tk x ks).append_right (nm r))).trans ?_
      exact List.Perm.swap x n _
    · simp only [insAt, if_neg e, nm]
      have h2 : over ∈ nm ks ++ nm r := by
        rcases List.mem_cons.mp (show over ∈ n :: (nm ks ++ nm r) from h) with q | q
        · exact absurd q.symm e
        · exact q
      rcases List.mem_append.mp h2 with q | q
      · have hr : insAt over k tk x r = r := insAt_off over k tk x r fun z => dd over q over z rfl
        rw [hr]
        refine (List.Perm.cons n ((nm_insAt over k tk x ks d1 q).append_right (nm r))).trans ?_
        exact List.Perm.swap x n _
      · have hr : insAt over k tk x ks = ks := insAt_off over k tk x ks fun z => dd over z over q rfl
        rw [hr]
        refine (List.Perm.cons n ((nm_insAt over k tk x r d2 q).append_left (nm ks))).trans ?_
        refine (List.Perm.cons n List.perm_middle).trans ?_
        exact List.Perm.swap x n _
where
  insAt_off (over : Str) (k tk : Nat) (x : Str) : ∀ (f : Fo), over ∉ nm f → insAt over k tk x f = f
    | nil, _ => rfl
    | cons n ks r, h => by
      simp only [nm, List.mem_cons, List.mem_append, not_or] at h
      obtain ⟨h1, h2, h3⟩ := h
      simp only [insAt, if_neg (fun e => h1 e.symm : ¬ n = over), insAt_off over k tk x ks h2, insAt_off over k tk x r h3]
theorem insAt_no {over : Str} {k tk : Nat} {x : Str} {f : Fo} (h : over ∉ nm f) : insAt over k tk x f = f := nm_insAt.insAt_off over k tk x f h
theorem Rep.congr {g g' : Str → List Str} : ∀ {f : Fo}, Rep g f → (∀ n ∈ nm f, g' n = g n) → Rep g' f
  | nil, _, _ => trivial
  | cons n ks r, h, e => ⟨(e n (List.mem_cons_self ..)).trans h.1, Rep.congr h.2.1 fun m hm => e m (List.mem_cons_of_mem _ (List.mem_append_left _ hm)), Rep.congr h.2.2 fun m hm => e m (List.mem_cons_of_mem _ (List.mem_append_right _ hm))⟩
theorem Rep.take {g : Str → List Str} : ∀ {k : Nat} {f : Fo}, Rep g f → Rep g (ftake k f)
  | 0, _, _ => trivial
  | _ + 1, nil, _ => trivial
  | k + 1, cons n ks r, h => ⟨h.1, h.2.1, Rep.take h.2.2⟩
theorem Rep.drop {g : Str → List Str} : ∀ {k : Nat} {f : Fo}, Rep g f → Rep g (fdrop k f)
  | 0, _, h => h
  | _ + 1, nil, _ => trivial
  | k + 1, cons n ks r, h => Rep.drop (k := k) h.2.2
theorem Rep.insTop {g : Str → List Str} {x : Str} {tk : Nat} : ∀ {k : Nat} {f : Fo}, Rep g f → k ≤ (tops f).length → g x = ((tops f).drop k).take tk → Rep g (insTop k tk x f)
  | 0, f, h, _, e => ⟨by rw [tops_take]; simpa using e, h.take, h.drop⟩
  | _ + 1, nil, _, hk, _ => by simp [tops] at hk
  | k + 1, cons n ks r, h, hk, e => ⟨h.1, h.2.1, Rep.insTop h.2.2 (by simp [tops] at hk; omega) (by simpa [tops] using e)⟩
theorem Rep.insAt {g : Str → List Str} {over x : Str} {k tk : Nat} {l : List Str} : ∀ {f : Fo}, Rep g f → (nm f).Nodup → over ∈ nm f → x ∉ nm f → g over = l → k ≤ l.length →
    Rep (fun n => if n = x then (l.drop k).take tk else if n = over then l.take k ++ [x] ++ l.drop (k + tk) else g n) (insAt over k tk x f)
  | nil, _, _, h, _, _, _ => by simp [nm] at h
  | cons n ks r, h, hd, ho, hx, e, hk => by
    simp only [nm, List.nodup_cons, List.nodup_append] at hd
    obtain ⟨hn, d1, d2, dd⟩ := hd
    simp only [nm, List.mem_cons, List.mem_append, not_or] at hx hn
    obtain ⟨x1, x2, x3⟩ := hx
    have off : ∀ f : Fo, x ∉ nm f → over ∉ nm f → Rep g f → Rep (fun n => if n = x then (l.drop k).take tk else if n = over then l.take k ++ [x] ++ l.drop (k + tk) else g n) f := fun f hx ho hf =>
      hf.congr fun m hm => by
        show (if m = x then _ else if m = over then _ else g m) = g m
        rw [if_neg (fun z : m = x => hx (z ▸ hm)), if_neg (fun z : m = over => ho (z ▸ hm))]
    by_cases en : n = over
    · simp only [Fo.insAt, if_pos en]
      have et : tops ks = l := by rw [← h.1, en, e]
      have oks : over ∉ nm ks := fun z => hn.1 (en ▸ z)
      have orr : over ∉ nm r := fun z => hn.2 (en ▸ z)
      refine ⟨?_, ?_, off r x3 orr h.2.2⟩
      · show (if n = x then _ else if n = over then _ else g n) = _
        rw [if_neg (fun z => x1 z.symm), if_pos en, tops_ins _ _ _ _ (by rw [et]; exact hk), et]
      · refine Rep.insTop (off ks x2 oks h.2.1) (by rw [et]; exact hk) ?_
        show (if x = x then _ else _) = _
        rw [if_pos rfl, et]
    · simp only [Fo.insAt, if_neg en]
      have h2 : over ∈ nm ks ∨ over ∈ nm r := by
        rcases List.mem_cons.mp (show over ∈ n :: (nm ks ++ nm r) from ho) with q | q
        · exact absurd q.symm en
        · exact List.mem_append.mp q
      have top : ∀ ks', tops ks' = tops ks → (if n = x then (l.drop k).take tk else if n = over then l.take k ++ [x] ++ l.drop (k + tk) else g n) = tops ks' := fun ks' q => by
        rw [if_neg (fun z => x1 z.symm), if_neg en, q]; exact h.1
      rcases h2 with q | q
      · rw [insAt_no (f := r) fun z => dd over q over z rfl]
        refine ⟨top _ (tops_insAt ..), Rep.insAt h.2.1 d1 q x2 e hk, off r x3 (fun z => dd over q over z rfl) h.2.2⟩
      · rw [insAt_no (f := ks) fun z => dd over z over q rfl]
        exact ⟨top _ rfl, off ks x2 (fun z => dd over z over q rfl) h.2.1, Rep.insAt h.2.2 d2 q x3 e hk⟩
where
  tops_insAt (over : Str) (k tk : Nat) (x : Str) : ∀ f : Fo, tops (Fo.insAt over k tk x f) = tops f
    | nil => rfl
    | cons n ks r => by
      by_cases en : n = over
      · simp only [Fo.insAt, if_pos en, tops]
      · simp only [Fo.insAt, if_neg en, tops, tops_insAt over k tk x r]
theorem tops_insAt {over : Str} {k tk : Nat} {x : Str} {f : Fo} : tops (Fo.insAt over k tk x f) = tops f := Rep.insAt.tops_insAt over k tk x f
theorem tops_sub : ∀ {f : Fo} {n : Str}, n ∈ tops f → n ∈ nm f
  | nil, _, h => by simp [tops] at h
  | cons m ks r, n, h => by
    rcases List.mem_cons.mp (show n ∈ m :: tops r from h) with q | q
    · exact q ▸ List.mem_cons_self ..
    · exact List.mem_cons_of_mem _ (List.mem_append_right _ (tops_sub q))
theorem dp_le : ∀ f : Fo, dp f ≤ (nm f).length
  | nil => Nat.le_refl _
  | cons n ks r => by
    have h1 := dp_le ks
    have h2 := dp_le r
    simp only [dp, nm, List.length_cons, List.length_append]
    omega
/-! depth -/
theorem Dep.congr {e e' : Str → Nat} : ∀ {f : Fo} {l : Nat}, Dep e l f → (∀ n ∈ nm f, e' n = e n) → Dep e' l f
  | nil, _, _, _ => trivial
  | cons n ks r, l, h, q => ⟨(q n (List.mem_cons_self ..)).trans h.1, Dep.congr h.2.1 fun m hm => q m (List.mem_cons_of_mem _ (List.mem_append_left _ hm)), Dep.congr h.2.2 fun m hm => q m (List.mem_cons_of_mem _ (List.mem_append_right _ hm))⟩
theorem Dep.insTop {e : Str → Nat} {x : Str} : ∀ {k : Nat} {f : Fo} {l : Nat}, Dep e l f → e x = l + 1 → Dep e l (insTop k 0 x f)
  | 0, f, l, h, q => ⟨q, trivial, h⟩
  | _ + 1, nil, l, _, q => ⟨q, trivial, trivial⟩
  | k + 1, cons n ks r, l, h, q => ⟨h.1, h.2.1, Dep.insTop h.2.2 q⟩
theorem Dep.insAt {e : Str → Nat} {over x : Str} {k : Nat} : ∀ {f : Fo} {l : Nat}, Dep e l f → e x = e over + 1 → Dep e l (insAt over k 0 x f)
  | nil, _, _, _ => trivial
  | cons n ks r, l, h, q => by
    by_cases en : n = over
    · simp only [Fo.insAt, if_pos en]
      exact ⟨h.1, Dep.insTop h.2.1 (by rw [q, ← en, h.1]), h.2.2⟩
    · simp only [Fo.insAt, if_neg en]
      exact ⟨h.1, Dep.insAt h.2.1 q, Dep.insAt h.2.2 q⟩
theorem Dep.dp {e : Str → Nat} {t : Nat} : ∀ {f : Fo} {l : Nat}, Dep e l f → (∀ n ∈ nm f, e n ≤ t) → l ≤ t → l + Fo.dp f ≤ t
  | nil, l, _, _, h => h
  | cons n ks r, l, h, q, hl => by
    have h0 := q n (List.mem_cons_self ..)
    have h1 := Dep.dp h.2.1 (fun m hm => q m (List.mem_cons_of_mem _ (List.mem_append_left _ hm))) (by rw [← h.1]; exact h0)
    have h2 := Dep.dp h.2.2 (fun m hm => q m (List.mem_cons_of_mem _ (List.mem_append_right _ hm))) hl
    simp only [Fo.dp]
    omega
end Fo
/-! ### a wood in the heap -/
/-- these values are the trees of f -/
inductive Rp (K : PySem.W.Frag) (H : Hp) : List V → Fo → Prop where
  | nil : Rp K H [] .nil
  | cons {t k : Addr} {n : Str} {kvs vs : List V} {ks r : Fo} : SqT K H t [.str n, .ref k] → SqT K H k kvs → Rp K H kvs ks → Rp K H vs r → Rp K H (.ref t :: vs) (.cons n ks r)
/-- the tuple at a is the wood f -/
def WoodAt (K : PySem.W.Frag) (H : Hp) (a : Addr) (f : Fo) : Prop := ∃ vs, SqT K H a vs ∧ Rp K H vs f
/-- tuples stay -/
def Tk (K : PySem.W.Frag) (H H' : Hp) : Prop := ∀ a xs, SqT K H a xs → SqT K H' a xs
theorem Tk.of {K : PySem.W.Frag} {H H' : Hp} (h : ∀ a o, H a = some o → (∃ xs, o = .tup xs ∨ ∃ ob, o = .frz ob (.tup xs)) → H' a = some o) : Tk K H H' := fun a xs q => by
  rcases q with (q | ⟨ob, q⟩) | q
  · exact .inl (.inl (h a _ q ⟨xs, .inl rfl⟩))
  · exact .inl (.inr ⟨ob, h a _ q ⟨xs, .inr ⟨ob, rfl⟩⟩⟩)
  · exact .inr q
theorem Tk.kp {K : PySem.W.Frag} {H H' : Hp} (h : ∀ a o, H a = some o → H' a = some o) : Tk K H H' := Tk.of fun a o e _ => h a o e
theorem Tk.refl {K : PySem.W.Frag} {H : Hp} : Tk K H H := fun _ _ h => h
theorem Tk.trans {K : PySem.W.Frag} {H H1 H2 : Hp} (x : Tk K H H1) (y : Tk K H1 H2) : Tk K H H2 := fun a xs h => y a xs (x a xs h)
/-- all but a list or a dict is kept -/
theorem Tk.but {K : PySem.W.Frag} {H H' : Hp} {b : Addr} (hb : (∃ xs, H b = some (.lst xs)) ∨ (∃ xs, H b = some (.dK xs)) ∨ H b = none) (h : ∀ a o, H a = some o → a ≠ b → H' a = some o) : Tk K H H' := Tk.of fun a o e q => by
  refine h a o e fun z => ?_
  subst z
  obtain ⟨xs, q⟩ := q
  rcases hb with ⟨ys, hb⟩ | ⟨ys, hb⟩ | hb <;> rw [hb] at e <;> cases e <;> rcases q with q | ⟨_, q⟩ <;> cases q
theorem Rp.mono {K : PySem.W.Frag} {H H' : Hp} (t : Tk K H H') {vs : List V} {f : Fo} (h : Rp K H vs f) : Rp K H' vs f := by
  induction h with
  | nil => exact .nil
  | cons a b _ _ ih1 ih2 => exact .cons (t _ _ a) (t _ _ b) ih1 ih2
theorem WoodAt.mono {K : PySem.W.Frag} {H H' : Hp} (t : Tk K H H') {a : Addr} {f : Fo} (h : WoodAt K H a f) : WoodAt K H' a f := by
  obtain ⟨vs, h1, h2⟩ := h
  exact ⟨vs, t _ _ h1, h2.mono t⟩
theorem Rp.len {K : PySem.W.Frag} {H : Hp} {vs : List V} {f : Fo} (h : Rp K H vs f) : vs.length = f.tops.length := by
  induction h with
  | nil => rfl
  | cons _ _ _ _ _ ih => simp [Fo.tops, ih]
theorem Rp.dp {K : PySem.W.Frag} {H : Hp} {vs : List V} {f : Fo} (h : Rp K H vs f) : DpAll K H vs f.data := by
  induction h with
  | nil => exact .nil
  | cons a b _ _ ih1 ih2 => exact .cons (.tup a (.cons (.str _) (.cons (.tup b ih1) .nil))) ih2
theorem WoodAt.dp {K : PySem.W.Frag} {H : Hp} {a : Addr} {f : Fo} (h : WoodAt K H a f) : Dp K H (.ref a) (.tuple f.data) := by
  obtain ⟨vs, h1, h2⟩ := h
  exact .tup h1 h2.dp
end Tw
set_option Elab.async false
set_option linter.all false
set_option maxRecDepth 100000
set_option maxHeartbeats 4000000
/-! more rules over the hand layer -/
namespace Tw
open PySem PySem.Spec PyProof.Rows L2
/-- list(d.keys()) -/
def tListKeys (te : TE) : TE := fun σ H Q => te σ H fun x H1 => ∃ (d : Addr) (kvs : List (Key × V)), x = .ref d ∧ H1 d = some (.dK kvs) ∧ ∀ q, H1 q = none → Q (.ref q) (upd H1 q (.lst (kvs.map fun kv => kV kv.1)))
section
variable {X : Cx} {e : Expr} {te : TE} {p apos cpos pos : Pos}
theorem pe_listKeys (hm : X.mg "list" = none) (he : PE X e te) (hc : X.calm = true := by rfl) (hg : Gl X "list" := by rfl) (hv : bootBuiltins "list" = some (.type "list") := by decide +kernel) (hbase : attributeBase e "keys" X.env (eval e X.env) = eval e X.env := by rfl) (hline : (apos.endLine == cpos.line) = true := by rfl)
    (hs : starEach [.Call (.Attribute e "keys" apos) [] [] cpos] X.env = (false, eval (.Call (.Attribute e "keys" apos) [] [] cpos) X.env) :: starEach [] X.env := by rfl) :
    PE X (.Call (.Name "list" p) [.Call (.Attribute e "keys" apos) [] [] cpos] [] pos) (tListKeys te) := by
  refine ⟨fun pins s σ H Q I hq => ?_⟩
  refine wpAny_Call_Name_kw (ld_blt I hg hm hv ?_)
  refine PyProof.Rows.callWith_type1 ?_ hs rfl
  rw [hs]
  show wpAny _ _ (spliced ((false, eval (.Call (.Attribute e "keys" apos) [] [] cpos) X.env) :: backTo pos (starEach [] X.env))) _ _ s
  refine Calls.spliced_cons ?_
  refine wpAny_Call_method (T := "dict") (id := "dict.keys") hbase rfl hline F.plainAttrs_dict F.slot_dict_keys F.type_dict_keys (thn (he.run pins s σ H _ I hq) fun u s1 ⟨x, H1, I1, rx, d, kvs, ex, hd, q⟩ => ?_)
  subst ex
  obtain rfl : u = Value.ref d := rx
  obtain ⟨hz, hs0, vs, kv, hdo⟩ := I1.hok d _ hd
  obtain ⟨ep, hat⟩ := hdo.dictAt
  have lk : kvs.length = vs.length := Paired.length kv
  have I2 : Inv X pins σ H1 { s1 with heap := s1.heap.push { cls := .type "dict_keys", data := .fields #[.ref d] } } := I1.kept (t' := s1.toks) fun b ob q => Heap.get?_push_of_some _ q
  refine ⟨hdo.typeIs, hdo.mapOf.noDict, ?_⟩
  show wpAny _ _ (callWith cpos (.builtin "dict.keys") [.ref d] [] []) _ X.xe s1
  refine method_meetsIn F.slot_dict_keys F.entry_dict_keys rfl (PySem.evalArgs_none ⟨rfl, hdo.typeIs, F.args_dict_keys_1 _, _, PySem.W.kdl_meets_keys (mixKind X.prog X.w) d hs0, ⟨vs, hdo⟩, ?_⟩)
  refine Calls.spliced_nil ?_
  refine PySem.W.kdl_call (PySem.W.kdl_keys (r := s1.heap.objs.size) (knd := mixKind X.prog X.w) (kvs := vs) (ep := ep)) (I1.ok.hd hc) ⟨⟨_, Heap.get?_push_size _ rfl, rfl, rfl⟩, hat.push _⟩ (by omega) fun h' tk acc' c' hkeep hS hacc => ?_
  refine ⟨.ref _, upd H1 _ (.lst (kvs.map fun kv => kV kv.1)), I2.laid hkeep (Nat.le_refl _) (show ObjOk X.prog X.w _ _ _ (.lst (kvs.map fun kv => kV kv.1)) from ⟨?_, acc'.toList, c', ?_, ?_⟩), rfl, q _ (I2.hok.fresh (Nat.le_refl _))⟩
  · rw [List.length_map]; exact hz
  · have el : acc'.toList.length = acc'.size := by simp
    refine vals_of_at (by rw [List.length_map, el, hacc.1, lk]) fun j y w h1 h2 => ?_
    obtain ⟨k, y, hky, hi⟩ := hacc.2 j w (by rw [← Array.getElem?_toList]; exact h2)
    have e1 : (kvs.map (·.1))[j]? = some k := by
      rw [KV.keys kv, List.getElem?_map, hky] <;> rfl
    have e2 : (kvs.map fun kv => kV kv.1)[j]? = some (kV k) := by
      have e3 : (kvs.map fun kv => kV kv.1) = (kvs.map (·.1)).map kV := by rw [List.map_map] <;> rfl
      rw [e3, List.getElem?_map, e1] <;> rfl
    rw [e2] at h1
    cases h1
    exact keyIs_rel hi
  · rw [Array.toArray_toList]; exact hS
end
end Tw
namespace Tw
open PySem PySem.Spec PyProof.Rows HT L2
section
variable {prog : Program} {w : World} {A : Around} {E : Value → Shared → Prop} {s : Shared}
theorem places_rev (n : Nat) : Builtin.Slice.slicePlaces ((n : Int) - 1) (-1) (-1) = n := by
  unfold Builtin.Slice.slicePlaces
  have h1 : ¬ ((-1 : Int) > 0) := by omega
  have e : -(-1 : Int) = 1 := by omega
  simp only [h1, if_false, e, Int.ediv_one]
  split <;> omega
theorem sliceApplied_rev {sl : Addr} {vl vu vs : Value} {n : Nat} {Q : Int × Int × Nat → Shared → Prop} (hs : s.heap.IsSliceOf sl vl vu vs) (pl : IsPart vl none) (pu : IsPart vu none) (ps : IsPart vs (some (-1)))
    (h : Q ((n : Int) - 1, -1, n) s) : wpAny (model prog w) A (Builtin.Slice.sliceApplied (.ref sl) (pure (n : Int))) Q E s := by
  obtain ⟨os, hos, hcs, hds⟩ := id hs
  unfold Builtin.Slice.sliceApplied Builtin.Slice.sliceFields
  refine wpAny_bind (wpAny_bind (wpAny_field hos hds (x := vl) rfl (wpAny_bind (wpAny_field hos hds (x := vu) rfl (wpAny_bind (wpAny_field hos hds (x := vs) rfl (wpAny_pure ?_)))))))
  refine wpAny_bind (slicePart_ ps ?_)
  show wpAny _ _ (if ((-1 : Int) == 0) = true then _ else _) _ _ s
  rw [if_neg (by decide)]
  refine wpAny_bind (slicePart_ pl (wpAny_bind (slicePart_ pu (wpAny_bind (wpAny_pure ?_)))))
  show wpAny _ _ (pure ((n : Int) - 1, (-1 : Int), Builtin.Slice.slicePlaces ((n : Int) - 1) (-1) (-1))) _ _ s
  rw [places_rev]
  exact wpAny_pure h
theorem fm_congr {α β : Type} {f g : α → Option β} : ∀ {l : List α}, (∀ a ∈ l, f a = g a) → l.filterMap f = l.filterMap g
  | [], _ => rfl
  | a :: l, h => by
    rw [List.filterMap_cons, List.filterMap_cons, h a (List.mem_cons_self ..), fm_congr fun b hb => h b (List.mem_cons_of_mem _ hb)]
theorem pick_rev (xs : Array Value) : ((List.range xs.size).filterMap fun (m : Nat) => xs[(((xs.size : Int) - 1) + (m : Int) * (-1)).toNat]?).toArray = xs.toList.reverse.toArray := by
  have e : (List.range xs.size).filterMap (fun (m : Nat) => xs[(((xs.size : Int) - 1) + (m : Int) * (-1)).toNat]?) = ((List.range xs.size).map fun k => xs.size - 1 - k).filterMap (xs[·]?) := by
    rw [List.filterMap_map]
    refine fm_congr ?_
    intro m hm
    have hm := List.mem_range.mp hm
    have : (((xs.size : Int) - 1) + (m : Int) * (-1)).toNat = xs.size - 1 - m := by omega
    rw [this]; rfl
  rw [e, PySem.W.krv_range, List.filterMap_reverse, PySem.W.krv_all]
theorem getItem_tuple_rev {t sl : Addr} {items : Array Value} {vl vu vs : Value} {Q : Value → Shared → Prop} (ht : IsTup s.heap t items) (hs : s.heap.IsSliceOf sl vl vu vs) (pl : IsPart vl none) (pu : IsPart vu none) (ps : IsPart vs (some (-1)))
    (h : Q (.ref s.heap.objs.size) { s with heap := s.heap.push { cls := .type "tuple", data := .seq items.toList.reverse.toArray } })
    (hsz : items.size ≤ sizeLine) : wpAny (model prog w) A (getItem (.ref t) (.ref sl)) Q E s := by
  have htake : sizeOk (.seq items.toList.reverse.toArray) := by
    show items.toList.reverse.toArray.size ≤ sizeLine
    rw [List.size_toArray, List.length_reverse, Array.length_toList]
    exact hsz
  obtain ⟨os, hos, hcs, hds⟩ := id hs
  have hTs : s.TypeIs (.ref sl) "slice" := ⟨os, hos, hcs⟩
  unfold getItem
  try with_reducible refine wpAny_holding ?_
  first | refine wpAny_bind (wpAny_pure ?_) | skip
  refine wpAny_bind (wpAny_sequenceKey ht.typeIs (by decide) ?_)
  refine wpAny_bind (wpAny_callSpecial?_slot (name := Str.ofString "__getitem__") ht.typeIs PyProof.Rows.slot_tuple_getitem
    (wpAny_call_entry PyProof.Rows.slot_tuple_getitem ht.typeIs entry_tuple_getitem ?_ (args_tuple_getitem _ _)))
  show wpAny _ _ (Builtin.Tuple.tupleItemsOf (.ref t) >>= _) _ _ s
  refine wpAny_bind (tupleItemsOf_ ht ?_)
  refine wpAny_bind (wpAny_typeOf hTs ?_)
  rw [if_pos (by decide)]
  refine wpAny_bind (sliceApplied_rev hs pl pu ps ?_)
  have hno : ¬ ((((items.size : Int) - 1) == 0 && (-1 : Int) == 1 && items.size == items.size) = true) := by
    intro q
    rw [Bool.and_eq_true, Bool.and_eq_true] at q
    exact absurd q.1.2 (by decide)
  show wpAny _ _ (if (((items.size : Int) - 1) == 0 && (-1 : Int) == 1 && items.size == items.size) = true then _ else _) _ _ s
  rw [if_neg hno, pick_rev]
  first
    | exact wpAny_bind (m := Builtin.Tuple.tupleExact _) (wpAny_newObj_type (wpAny_pure ⟨_, rfl, wpAny_pure h⟩) htake)
    | exact wpAny_bind (m := Builtin.Tuple.tupleExact _) (wpAny_newObj_type (wpAny_bind (wpAny_pure (wpAny_pure ⟨_, rfl, wpAny_pure h⟩))) htake)
    | exact wpAny_bind (wpAny_bind (m := Builtin.Tuple.tupleExact _) (wpAny_newObj_type (wpAny_pure (wpAny_pure ⟨_, rfl, wpAny_pure h⟩)) htake))
    | exact wpAny_bind (wpAny_bind (m := Builtin.Tuple.tupleExact _) (wpAny_newObj_type (wpAny_pure ⟨_, rfl, wpAny_pure h⟩) htake))
end
/-- t[::-1], t a tuple -/
def tRevT (K : PySem.W.Frag) (te : TE) : TE := fun σ H Q => te σ H fun x H1 => ∃ a xs, x = .ref a ∧ SqT K H1 a xs ∧ ∀ p, H1 p = none → Q (.ref p) (upd H1 p (.tup xs.reverse))
section
variable {X : Cx}
theorem pe_revT {e : Expr} {te : TE} {k : Nat} {p1 p2 p3 pos : Pos} (he : PE X e te) : PE X (.Subscript e (.Slice none none (some (.UnaryOp .USub (.Constant (.int 1) k p1) p2)) p3) pos) (tRevT X.K te) := by
  refine ⟨fun pins s σ H Q I h => ?_⟩
  refine Subscript_ (thn (he.run pins s σ H _ I h) fun v s1 ⟨x, H1, I1, r1, q1⟩ => ?_)
  obtain ⟨a, xs, ex, hx, q⟩ := q1
  subst ex
  cases r1
  have hst : PO X (some (.UnaryOp .USub (.Constant (.int 1) k p1) p2)) (tPart (tUn (rU fun i => .int (-i)) (tC (.int 1)))) := po_some (pe_un un_neg pe_int)
  refine wpAny_Slice (thn (po_none.run pins s1 σ H1 (fun o H2 => o = none ∧ H2 = H1) I1 ⟨rfl, rfl⟩) fun vl s2 ⟨l, H2, I2, pl, el, e2⟩ => ?_)
  subst el e2
  refine thn (po_none.run pins s2 σ H2 (fun o H3 => o = none ∧ H3 = H2) I2 ⟨rfl, rfl⟩) fun vu s3 ⟨u, H3, I3, pu, eu, e3⟩ => ?_
  subst eu e3
  refine thn (hst.run pins s3 σ H3 (fun o H4 => o = some (-1) ∧ H4 = H3) I3 ⟨1, rfl, -1, rfl, rfl, rfl⟩) fun vs s4 ⟨o, H4, I4, ps, eo, e4⟩ => ?_
  subst eo e4
  have I5 : Inv X pins σ H4 { s4 with heap := s4.heap.push { cls := .type "slice", data := .fields #[vl, vu, vs] } } := I4.kept (t' := s4.toks) fun b ob q => Heap.get?_push_of_some _ q
  obtain ⟨its, r, ht, hz⟩ := I5.tuple hx
  have hlen := r.length
  show wpAny (model X.prog X.w) X.A (subscriptTail e (.Slice none none (some (.UnaryOp .USub (.Constant (.int 1) k p1) p2)) p3) (.ref a) (.ref s4.heap.objs.size)) (EP X pins σ Q) X.xe { s4 with heap := s4.heap.push { cls := .type "slice", data := .fields #[vl, vu, vs] } }
  refine tail_any (ops := [.ref a, .ref s4.heap.objs.size]) ht.typeIs (PyProof.Rows.slot_tuple_getitem.lookup) ?_ (by with_unfolding_all rfl)
  refine getItem_tuple_rev ht (Heap.IsSliceOf.new _ vl vu vs) pl pu ps ?_ (by rw [List.size_toArray]; omega)
  refine ⟨.ref _, _, I5.laid (t' := s4.toks) (o := .tup xs.reverse) (fun b ob q => Heap.get?_push_of_some _ q) (Nat.le_refl _) ?_, rfl, q _ (I5.hok.fresh (Nat.le_refl _))⟩
  exact ⟨by rw [List.length_reverse]; exact hz, _, r.reverse, ⟨_, Heap.get?_push_size _ rfl, rfl, _, rfl⟩⟩
end
end Tw
set_option Elab.async false
set_option linter.all false
set_option maxRecDepth 100000
set_option maxHeartbeats 4000000
namespace Tw
open PySem PySem.Spec PyProof.Rows L2 TL
section
variable {σ : L2.St} {H : Hp} {Q : VK} {td ty tv te : TE} {D : Ends}
theorem o_dget : tDGet td ty σ H Q = td σ H fun x H1 => ty σ H1 fun y H2 => ∃ a v, x = .ref a ∧ DGet H2 a y (some v) ∧ Q v H2 := rfl
theorem o_dput : sDPut td ty tv D σ H = tv σ H fun v H1 => td σ H1 fun x H2 => ty σ H2 fun y H3 => ∃ a H4, x = .ref a ∧ DPut H3 a y v H4 ∧ D.nx σ H4 := rfl
theorem o_din : tDIn ty td σ H Q = ty σ H fun y H1 => td σ H1 fun x H2 => ∃ a o, x = .ref a ∧ DGet H2 a y o ∧ Q (.bl o.isSome) H2 := rfl
theorem o_dnotin : tDNotIn ty td σ H Q = ty σ H fun y H1 => td σ H1 fun x H2 => ∃ a o, x = .ref a ∧ DGet H2 a y o ∧ Q (.bl (!o.isSome)) H2 := rfl
theorem o_listKeys : tListKeys te σ H Q = te σ H fun x H1 => ∃ (d : Addr) (kvs : List (Key × V)), x = .ref d ∧ H1 d = some (.dK kvs) ∧ ∀ q, H1 q = none → Q (.ref q) (upd H1 q (.lst (kvs.map fun kv => kV kv.1))) := rfl
theorem o_disp {trs : List (TE × TE)} : tDisp trs σ H Q = ∀ p, H p = none → tPairs trs σ (upd H p (.dK [])) fun ps H2 => H2 p = some (.dK []) ∧ ∃ kvs : List (Key × V), ps = kvs.map (fun kv => (kV kv.1, kv.2)) ∧ kvs.length ≤ 15 ∧ Q (.ref p) (upd H2 p (.dK (mergeK [] kvs))) := rfl
theorem o_dnew : tDNewK σ H Q = ∀ p, H p = none → Q (.ref p) (upd H p (.dK [])) := rfl
theorem o_pairs0 {Q : List (V × V) → Hp → Prop} : tPairs [] σ H Q = Q [] H := rfl
theorem o_pairs1 {Q : List (V × V) → Hp → Prop} {tk tv : TE} {r : List (TE × TE)} : tPairs ((tk, tv) :: r) σ H Q = tk σ H fun x H1 => tv σ H1 fun y H2 => tPairs r σ H2 fun ps H3 => Q ((x, y) :: ps) H3 := rfl
end
local macro_rules | `(tactic| walk_at "rd") => `(tactic| try simp only [o_op, o_un, o_var, o_c, o_cb, o_call, o_cons, o_nil, o_tup, o_lst, o_I0, o_I, o_int1, o_intb, o_abs, o_test, o_b, o_not, o_and, o_or, o_andV, o_orV, o_notV, o_ifE, o_isN, o_notN, o_eq, o_ne, o_seq, o_next, o_asg, o_name, o_sub, o_par, o_par3, o_drop, o_ret, o_retN, o_ifS, o_sl, o_noPart, o_part, o_bm, o_bm0, o_m0, o_m1, o_dget, o_dput, o_din, o_dnotin, o_listKeys, e_bl, e_int, e_str, e_some, e_two, e_three, o_for, o_lc, o_iList, o_iTup, o_iRng1, e_int1, e_ref, o_yes, o_wipe0, o_wipe1, o_disp, o_dnew, o_pairs0, o_pairs1, true_and, if_pos, List.getElem?_cons_zero, List.getElem?_cons_succ, List.set_cons_zero, List.set_cons_succ, List.append_nil])
/-! ### dicts by names -/
abbrev kvs (ks : List Str) (F : Str → V) : List (Key × V) := ks.map fun n => ((Sum.inr n : Key), F n)
theorem valV_kvs (F : Str → V) (n : Str) : ∀ ks : List Str, valV (kvs ks F) (Sum.inr n) = if n ∈ ks then some (F n) else none
  | [] => rfl
  | m :: ks => by
    by_cases e : m = n
    · subst e
      rw [show kvs (m :: ks) F = ((Sum.inr m : Key), F m) :: kvs ks F from rfl, valV_pos rfl, if_pos (List.mem_cons_self ..)]
    · rw [show kvs (m :: ks) F = ((Sum.inr m : Key), F m) :: kvs ks F from rfl, valV_neg (fun z => e (Sum.inr.inj z)), valV_kvs F n ks]
      have h : (n ∈ m :: ks) ↔ (n ∈ ks) := ⟨fun z => (List.mem_cons.mp z).resolve_left fun y => e y.symm, fun z => List.mem_cons_of_mem _ z⟩
      simp only [h]
theorem put_old (F : Str → V) (n : Str) (v : V) (ks : List Str) (h : n ∈ ks) : putK (kvs ks F) (Sum.inr n) v = kvs ks fun m => if m = n then v else F m := by
  unfold putK
  have h2 : ((kvs ks F).any fun kv => decide (kv.1 = Sum.inr n)) = true := by
    rw [valV_any, valV_kvs, if_pos h]; rfl
  rw [if_pos h2]
  simp only [kvs, List.map_map]
  refine List.map_congr_left fun m _ => ?_
  show (if (Sum.inr m : Key) = Sum.inr n then _ else _) = _
  by_cases e : m = n
  · rw [if_pos (by rw [e]), if_pos e]
  · rw [if_neg (fun z => e (Sum.inr.inj z)), if_neg e]
theorem put_new (F : Str → V) (n : Str) (v : V) (ks : List Str) (h : n ∉ ks) : putK (kvs ks F) (Sum.inr n) v = kvs (ks ++ [n]) fun m => if m = n then v else F m := by
  rw [putK_new v (by rw [valV_kvs, if_neg h])]
  simp only [kvs, List.map_append, List.map_cons, List.map_nil, if_pos]
  congr 1
  refine List.map_congr_left fun m hm => ?_
  rw [if_neg (fun z : m = n => h (z ▸ hm))]
/-- at d a dict from names to lists of names, each list at a place of its own -/
structure Kids (H : Hp) (d : Addr) (ks : List Str) (g : Str → List Str) (at_ : Str → Addr) : Prop where
  dict : H d = some (.dK (kvs ks fun n => .ref (at_ n)))
  lists : ∀ n ∈ ks, H (at_ n) = some (.lst ((g n).map V.str))
  inj : ∀ n ∈ ks, ∀ m ∈ ks, at_ n = at_ m → n = m
  nd : ks.Nodup
section
variable {H H' : Hp} {d : Addr} {ks : List Str} {g : Str → List Str} {at_ : Str → Addr}
theorem Kids.kp (k : Kids H d ks g at_) (h : Kp H H') : Kids H' d ks g at_ := ⟨h _ _ k.dict, fun n hn => h _ _ (k.lists n hn), k.inj, k.nd⟩
theorem Kids.keep {a : Addr} (k : Kids H d ks g at_) (h : ∀ b o, H b = some o → b ≠ a → H' b = some o) (ha : (∃ x y z : Int, H a = some (.lst [.int x, .int y, .int z]))) : Kids H' d ks g at_ := by
  obtain ⟨x, y, z, ha⟩ := ha
  refine ⟨h _ _ k.dict fun e => ?_, fun n hn => h _ _ (k.lists n hn) fun e => ?_, k.inj, k.nd⟩
  · have := k.dict
    rw [e, ha] at this; cases this
  · have h2 := k.lists n hn
    rw [e, ha] at h2
    have h3 : [V.int x, V.int y, V.int z] = (g n).map V.str := HO.lst.inj (Option.some.inj h2)
    cases hg : g n with
    | nil => rw [hg] at h3; cases h3
    | cons s r => rw [hg] at h3; cases h3
theorem Kids.get (k : Kids H d ks g at_) {n : Str} (hn : n ∈ ks) : DGet H d (.str n) (some (.ref (at_ n))) := by
  have h := DGet.k (k := (Sum.inr n : Key)) k.dict
  rw [valV_kvs, if_pos hn] at h
  exact h
/-- d[x] = a new list, d[over] = a new list -/
theorem Kids.put2 (k : Kids H d ks g at_) {x over : Str} {p q : Addr} {l l2 : List Str} (hx : x ∉ ks) (ho : over ∈ ks) (hp : H p = none) (hq : H q = none) (hpq : p ≠ q) {H1 : Hp}
    (h : ∀ b o, H b = some o → b ≠ d → H1 b = some o) (h1 : H1 p = some (.lst (l.map V.str))) (h2 : H1 q = some (.lst (l2.map V.str))) (hd : H1 d = some (.dK (kvs (ks ++ [x]) fun n => .ref (if n = over then q else if n = x then p else at_ n)))) :
    Kids H1 d (ks ++ [x]) (fun n => if n = x then l else if n = over then l2 else g n) (fun n => if n = over then q else if n = x then p else at_ n) := by
  have hxo : x ≠ over := fun e => hx (e ▸ ho)
  have no : ∀ n ∈ ks, at_ n ≠ p ∧ at_ n ≠ q := fun n hn => ⟨fun e => (by have := k.lists n hn; rw [e, hp] at this; cases this), fun e => (by have := k.lists n hn; rw [e, hq] at this; cases this)⟩
  have hdn : ∀ n ∈ ks, at_ n ≠ d := fun n hn e => by have := k.lists n hn; rw [e, k.dict] at this; cases this
  refine ⟨hd, fun n hn => ?_, fun n hn m hm e => ?_, nodup_snoc k.nd hx⟩
  · show H1 (if n = over then q else if n = x then p else at_ n) = some (.lst ((if n = x then l else if n = over then l2 else g n).map V.str))
    by_cases e1 : n = over
    · have e2 : ¬ n = x := fun z => hxo (z.symm.trans e1)
      rw [if_pos e1, if_neg e2, if_pos e1]; exact h2
    · by_cases e2 : n = x
      · rw [if_neg e1, if_pos e2, if_pos e2]; exact h1
      · rw [if_neg e1, if_neg e2, if_neg e2, if_neg e1]
        have hn' : n ∈ ks := by
          rcases List.mem_append.mp hn with z | z
          · exact z
          · exact absurd (List.mem_singleton.mp z) e2
        exact h _ _ (k.lists n hn') (hdn n hn')
  · have e : (if n = over then q else if n = x then p else at_ n) = (if m = over then q else if m = x then p else at_ m) := e
    have old : ∀ n ∈ ks ++ [x], n ≠ x → n ∈ ks := fun n hn z => by
      rcases List.mem_append.mp hn with y | y
      · exact y
      · exact absurd (List.mem_singleton.mp y) z
    by_cases a1 : n = over
    · rw [if_pos a1] at e
      by_cases b1 : m = over
      · rw [a1, b1]
      · rw [if_neg b1] at e
        by_cases b2 : m = x
        · rw [if_pos b2] at e; exact absurd e.symm hpq
        · rw [if_neg b2] at e; exact absurd e.symm (no m (old m hm b2)).2
    · rw [if_neg a1] at e
      by_cases a2 : n = x
      · rw [if_pos a2] at e
        by_cases b1 : m = over
        · rw [if_pos b1] at e; exact absurd e hpq
        · rw [if_neg b1] at e
          by_cases b2 : m = x
          · rw [a2, b2]
          · rw [if_neg b2] at e; exact absurd e.symm (no m (old m hm b2)).1
      · rw [if_neg a2] at e
        by_cases b1 : m = over
        · rw [if_pos b1] at e; exact absurd e (no n (old n hn a2)).2
        · rw [if_neg b1] at e
          by_cases b2 : m = x
          · rw [if_pos b2] at e; exact absurd e (no n (old n hn a2)).1
          · rw [if_neg b2] at e; exact k.inj n (old n hn a2) m (old m hm b2) e
end
def t_l_wood_of (K : PySem.W.Frag) (rec : Sp) : TS :=
  (tRet (tCB (rTupleOf K) (tCons (tLc (iList K (tDGet (tVar 0) (tVar 1))) (gName 2) tYes (tTup (tCons (tVar 2) (tCons (tCall rec [] E0 (tCons (tVar 0) (tCons (tVar 2) tNil))) tNil))) [2]) tNil)))
/-- the promise of wood_of, by the depth of the wood -/
def spW (K : PySem.W.Frag) : Nat → Sp
  | 0 => fun _ _ _ _ => False
  | m + 1 => fun vs H Q _ => ∃ (d : Addr) (n : Str) (ks : List Str) (g : Str → List Str) (at_ : Str → Addr) (f : Fo), vs = [.ref d, .str n] ∧ Kids H d ks g at_ ∧ n ∈ ks ∧ g n = f.tops ∧ f.Rep g ∧ (∀ x ∈ f.nm, x ∈ ks) ∧ f.dp ≤ m ∧ (Fo.nm f).length ≤ 100000 ∧
    ∀ (a : Addr) (H' : Hp), Kp H H' → WoodAt K H' a f → Q (.ref a) H'
theorem len_spW {K : PySem.W.Frag} {m : Nat} (vs : List V) (H : Hp) (Q : VK) (E : XK) (h : spW K m vs H Q E) : vs.length = 2 := by
  cases m with
  | zero => exact False.elim h
  | succ m =>
    obtain ⟨_, _, _, _, _, _, rfl, _⟩ := h
    rfl
theorem Rp.snoc {K : PySem.W.Frag} {H : Hp} {t k : Addr} {n : Str} {kvs : List V} {ks r : Fo} (h1 : SqT K H t [.str n, .ref k]) (h2 : SqT K H k kvs) (h3 : Rp K H kvs ks) : ∀ {i : Nat} {f : Fo} {vs : List V}, Rp K H vs (f.ftake i) → f.fdrop i = .cons n ks r → Rp K H (vs ++ [.ref t]) (f.ftake (i + 1))
  | 0, f, vs, h, e => by
    cases h
    have e2 : f = .cons n ks r := e
    subst e2
    exact .cons h1 h2 h3 .nil
  | i + 1, .nil, _, _, e => by cases e
  | i + 1, .cons m ks' r', vs, h, e => by
    cases h with
    | cons a b c d => exact .cons a b c (Rp.snoc h1 h2 h3 d e)
theorem ftake_all : ∀ (f : Fo), f.ftake f.tops.length = f
  | .nil => rfl
  | .cons n ks r => by simp only [Fo.tops, List.length_cons, Fo.ftake, ftake_all r]
theorem fdrop_at : ∀ {i : Nat} {f : Fo} {n : Str}, f.tops[i]? = some n → ∃ ks r, f.fdrop i = .cons n ks r
  | _, .nil, _, h => by simp [Fo.tops] at h
  | 0, .cons m ks r, n, h => by
    have e : m = n := by simpa [Fo.tops] using h
    subst e; exact ⟨ks, r, rfl⟩
  | i + 1, .cons m ks r, n, h => fdrop_at (i := i) (f := r) (by simpa [Fo.tops] using h)
theorem drop_facts {g : Str → List Str} : ∀ {i : Nat} {f : Fo} {n : Str} {ks r : Fo}, f.fdrop i = .cons n ks r → f.Rep g → g n = ks.tops ∧ ks.Rep g ∧ ks.dp + 1 ≤ f.dp ∧ (∀ x ∈ ks.nm, x ∈ f.nm) ∧ n ∈ f.nm ∧ ks.nm.length ≤ f.nm.length
  | 0, f, n, ks, r, e, h => by
    have e2 : f = .cons n ks r := e
    subst e2
    refine ⟨h.1, h.2.1, by simp only [Fo.dp]; omega, fun x hx => List.mem_cons_of_mem _ (List.mem_append_left _ hx), List.mem_cons_self .., by simp only [Fo.nm, List.length_cons, List.length_append]; omega⟩
  | i + 1, .nil, _, _, _, e, _ => by cases e
  | i + 1, .cons m ks' r', n, ks, r, e, h => by
    obtain ⟨h1, h2, h3, h4, h5, h6⟩ := drop_facts (i := i) e h.2.2
    refine ⟨h1, h2, by simp only [Fo.dp]; omega, fun x hx => List.mem_cons_of_mem _ (List.mem_append_right _ (h4 x hx)), List.mem_cons_of_mem _ (List.mem_append_right _ h5), by simp only [Fo.nm, List.length_cons, List.length_append]; omega⟩
theorem tops_len (f : Fo) : f.tops.length ≤ f.nm.length := by
  induction f with
  | nil => exact Nat.le_refl _
  | cons n ks r _ ih => simp only [Fo.tops, Fo.nm, List.length_cons, List.length_append]; omega
theorem pure_l_wood_of {K : PySem.W.Frag} {m : Nat} (vs : List V) (H : Hp) (Q : VK) (E : XK) (h : spW K (m + 1) vs H Q E) : t_l_wood_of K (spW K m) { nx := fun _ H' => Q .non H', rt := Q } (startN 3 vs) H := by
  obtain ⟨d, n, ks, g, at_, f, rfl, hk, hn, hg, hr, hin, hdp, hsz, q⟩ := h
  show t_l_wood_of K _ _ [some (.ref d), some (.str n), none] H
  unfold t_l_wood_of
  walk_at "rd"
  refine ⟨d, _, rfl, hk.get hn, ?_⟩
  walk_at "rd"
  have hl : SqL K H (at_ n) (f.tops.map V.str) := by rw [← hg]; exact SqL.of (hk.lists n hn)
  refine ⟨⟨_, hl⟩, ?_⟩
  have htl := tops_len f
  refine lb_walk (n := (f.tops.map V.str).length) walk_list (fun D i H2 => H D = none ∧ Kp H H2 ∧ ∃ vs, H2 D = some (.lst vs) ∧ Rp K H2 vs (f.ftake i)) ?_ ?_ ?_ ?_
  · intro D hD
    exact ⟨hD, (show Kp H H from fun _ _ h => h).new hD, [], upd_same, .nil⟩
  · rintro D i H2 hi ⟨hD, kp, _⟩
    exact SqL.of (kp _ _ (by have := hk.lists n hn; rw [hg] at this; exact this))
  · rintro D i x H2 H3 hi ⟨hD, kp, vs, h2, rp⟩ ⟨rfl, hx⟩
    obtain ⟨kid, hkid, rfl⟩ : ∃ kid, f.tops[i]? = some kid ∧ x = .str kid := by
      rw [List.getElem?_map] at hx
      cases e : f.tops[i]? with
      | none => rw [e] at hx; cases hx
      | some kid => rw [e] at hx; exact ⟨kid, rfl, (Option.some.inj hx).symm⟩
    obtain ⟨sub, r, hf⟩ := fdrop_at hkid
    obtain ⟨f1, f2, f3, f4, f5, f6⟩ := drop_facts hf hr
    walk_at "rd"
    cases m with
    | zero => omega
    | succ m =>
      refine ⟨d, kid, ks, g, at_, sub, rfl, hk.kp kp, hin _ f5, f1, f2, fun x hx => hin x (f4 x hx), by omega, by omega, fun a H4 k4 hw => ?_⟩
      obtain ⟨ws, w1, w2⟩ := hw
      refine ⟨by show 2 ≤ sizeLine; decide, fun t ht => ?_⟩
      have hD4 := k4 _ _ h2
      have htD : t ≠ D := fun e => by rw [e, hD4] at ht; cases ht
      have tk4 : Tk K H3 H4 := Tk.kp k4
      have tk5 : Tk K H4 (upd H4 t (.tup [.str kid, .ref a])) := Tk.kp ((show Kp H4 H4 from fun _ _ h => h).new ht)
      have tk6 : Tk K (upd H4 t (.tup [.str kid, .ref a])) (upd (upd H4 t (.tup [.str kid, .ref a])) D (.lst (vs ++ [.ref t]))) := Tk.but (b := D) (.inl ⟨vs, by rw [upd_ne htD.symm]; exact hD4⟩) fun b o e nb => by rw [upd_ne nb]; exact e
      refine ⟨vs, by rw [upd_ne htD.symm]; exact hD4, ?_, hD, ?_, vs ++ [.ref t], upd_same, ?_⟩
      · rw [rp.len, Fo.tops_take, List.length_take]
        have : i < f.tops.length := by simpa using hi
        have := sizeLine_eq; omega
      · intro b o e
        have e3 : b ≠ D := ne_of_none e hD
        rw [upd_ne e3]
        exact (show Kp H H4 from fun b o e => k4 b o (kp b o e)).new ht b o e
      · exact Rp.snoc (tk6 _ _ (SqT.of upd_same)) ((tk5.trans tk6) _ _ w1) (w2.mono (tk5.trans tk6)) (rp.mono (tk4.trans (tk5.trans tk6))) hf
  · rintro D H2 hD ⟨_, kp, vs, h2, rp⟩
    refine ⟨D, vs, rfl, .inl ⟨SqL.of h2, fun a ha => ?_⟩⟩
    rw [List.length_map, ftake_all] at rp
    exact q a _ (kp.new ha) ⟨vs, SqT.of upd_same, rp.mono (Tk.kp ((show Kp H2 H2 from fun _ _ h => h).new ha))⟩
def t_l_wood_b1 (K : PySem.W.Frag) : TS :=
  (tSeq (tAsg (tOp (rIxL K) (tListKeys (tVar 2)) (tCall sp_l_draw [] E0 (tCons (tVar 0) (tCons (tCB rLenD (tCons (tVar 2) tNil)) tNil)))) (gName 4))
  (tSeq (tAsg (tCall sp_l_draw [] E0 (tCons (tVar 0) (tCons (tOp (rI0 fun i j => .int (i + j)) (tCB (rLenSeq K) (tCons (tDGet (tVar 2) (tVar 4)) tNil)) (tC (.int 1))) tNil))) (gName 5))
  (tSeq (tAsg (tDGet (tVar 2) (tVar 4)) (gName 6))
  (tSeq (tAsg (tOp (rI CMul fun i j => .int (i * j)) (tOp (rI CDiv fun i j => .int (i / j)) (tCall sp_l_draw [] E0 (tCons (tVar 0) (tCons (tC (.int 4)) tNil))) (tC (.int 3))) (tCall sp_l_draw [] E0 (tCons (tVar 0) (tCons (tOp (rI0 fun i j => .int (i + j)) (tOp (rI0 fun i j => .int (i - j)) (tCB (rLenSeq K) (tCons (tVar 6) tNil)) (tVar 5)) (tC (.int 1))) tNil)))) (gName 7))
  (tSeq (sDPut (tVar 2) (tVar 3) (L2.tSl (rSlL K) (tVar 6) (tPart (tVar 5)) (tPart (tOp (rI0 fun i j => .int (i + j)) (tVar 5) (tVar 7)))))
  (sDPut (tVar 2) (tVar 4) (tOp rCat (tOp rCat (L2.tSl (rSlL K) (tVar 6) tNoPart (tPart (tVar 5))) (tLst (tCons (tVar 3) tNil))) (L2.tSl (rSlL K) (tVar 6) (tPart (tOp (rI0 fun i j => .int (i + j)) (tVar 5) (tVar 7))) tNoPart))))))))
def t_l_wood (K : PySem.W.Frag) : TS :=
  (tSeq (tAsg (tDisp [((tC (.str "")), (tLst tNil))]) (gName 2))
  (tSeq (tFor (iList K (tVar 1)) (gName 3)
  (t_l_wood_b1 K))
  (tRet (tCall (spW K 121) [] E0 (tCons (tVar 2) (tCons (tC (.str "")) tNil))))))

theorem gen_new {H H' : Hp} {p : Addr} {o : HO} (hp : H p = none) (h : upd H p o = H') : Kp H H' ∧ H' p = some o := by
  subst h
  exact ⟨fun b u e => by rw [upd_ne (ne_of_none e hp)]; exact e, upd_same⟩
theorem gen_chg {H H' : Hp} {p : Addr} {o : HO} (h : upd H p o = H') : (∀ b u, H b = some u → b ≠ p → H' b = some u) ∧ H' p = some o := by
  subst h
  exact ⟨fun b u e n => by rw [upd_ne n]; exact e, upd_same⟩
/-! ### wood -/
theorem keys_kvs (F : Str → V) (ks : List Str) : (kvs ks F).map (fun kv => kV kv.1) = ks.map V.str := by
  simp only [kvs, List.map_map]; rfl
theorem kvs_len (F : Str → V) (ks : List Str) : (kvs ks F).length = ks.length := List.length_map ..
/-- all of H stands in H' but for the deck at a, the dict at d, which H does not know -/
theorem Dk.off {a d : Addr} {H H1 H2 : Hp} (k : Dk a H H1) (hd : H d = none) (hda : d ≠ a) (h : ∀ b o, H1 b = some o → b ≠ a → b ≠ d → H2 b = some o) (hk : DeckAt H2 a) : Dk a H H2 :=
  ⟨fun b o e nb => h b o (k.keep b o e nb) nb (ne_of_none e hd), hk⟩
theorem deck_ne {H : Hp} {a b : Addr} (h : DeckAt H a) (hb : H b = none) : b ≠ a := fun e => by
  obtain ⟨g, m, c, e2⟩ := h
  rw [e, e2] at hb; cases hb
theorem cutV_str (l : List Str) (lo hi : Option Int) : cutV (l.map V.str) lo hi = ((l.drop (HT.sIx l.length 0 lo)).take (HT.sIx l.length l.length hi - HT.sIx l.length 0 lo)).map V.str := by
  unfold cutV
  simp only [List.length_map, List.map_take, List.map_drop]
structure Woody (K : PySem.W.Frag) (H : Hp) (d : Addr) (ks : List Str) (g : Str → List Str) (at_ : Str → Addr) (f : Fo) : Prop where
  kids : Kids H d (("" : Str) :: ks) g at_
  top : g ("" : Str) = f.tops
  rep : f.Rep g
  perm : f.nm.Perm ks
  named : ("" : Str) ∉ ks
theorem Woody.deck {K : PySem.W.Frag} {H H' : Hp} {a d : Addr} {ks : List Str} {g : Str → List Str} {at_ : Str → Addr} {f : Fo} (w : Woody K H d ks g at_ f) (k : Dk a H H') (ha : DeckAt H a) : Woody K H' d ks g at_ f :=
  ⟨w.kids.keep k.keep ha, w.top, w.rep, w.perm, w.named⟩
/-- the wood with one node more -/
theorem Woody.step {K : PySem.W.Frag} {H H' : Hp} {d p q : Addr} {ks : List Str} {g : Str → List Str} {at_ : Str → Addr} {f : Fo} (w : Woody K H d ks g at_ f) {x over : Str} (hx : x ∉ ("" : Str) :: ks) (ho : over ∈ ("" : Str) :: ks) {k tk : Nat} (hk : k ≤ (g over).length)
    (kd : Kids H' d ((("" : Str) :: ks) ++ [x]) (fun n => if n = x then ((g over).drop k).take tk else if n = over then (g over).take k ++ [x] ++ (g over).drop (k + tk) else g n) (fun n => if n = over then q else if n = x then p else at_ n)) :
    ∃ g' f', Woody K H' d (ks ++ [x]) g' (fun n => if n = over then q else if n = x then p else at_ n) f' ∧ (tk = 0 → ∀ e : Str → Nat, f.Dep e 0 → e ("" : Str) = 0 → e x = e over + 1 → f'.Dep e 0) := by
  have hx0 : ¬ x = ("" : Str) := fun e => hx (e ▸ List.mem_cons_self ..)
  have hxk : x ∉ ks := fun e => hx (List.mem_cons_of_mem _ e)
  have hxf : x ∉ f.nm := fun e => hxk (w.perm.mem_iff.mp e)
  have nd : f.nm.Nodup := w.perm.nodup_iff.mpr (List.nodup_cons.mp w.kids.nd).2
  have h0f : ("" : Str) ∉ f.nm := fun e => w.named (w.perm.mem_iff.mp e)
  by_cases e : over = ("" : Str)
  · subst e
    refine ⟨_, Fo.insTop k tk x f, ⟨kd, ?_, ?_, ?_, ?_⟩, ?_⟩
    · show (if ("" : Str) = x then _ else if ("" : Str) = ("" : Str) then _ else _) = _
      rw [if_neg (fun z => hx0 z.symm), if_pos rfl, Fo.tops_ins _ _ _ _ (by rw [← w.top]; exact hk), w.top]
    · refine Fo.Rep.insTop (w.rep.congr fun m hm => ?_) (by rw [← w.top]; exact hk) ?_
      · show (if m = x then _ else if m = ("" : Str) then _ else g m) = g m
        rw [if_neg (fun z : m = x => hxf (z ▸ hm)), if_neg (fun z : m = ("" : Str) => h0f (z ▸ hm))]
      · show (if x = x then _ else _) = _
        rw [if_pos rfl, w.top]
    · exact (Fo.nm_insTop k tk x f).trans ((w.perm.cons x).trans (List.perm_append_singleton x ks).symm)
    · intro z
      rcases List.mem_append.mp z with y | y
      · exact w.named y
      · exact hx0 (List.mem_singleton.mp y).symm
    · rintro rfl e hd e0 ex
      exact Fo.Dep.insTop hd (by rw [ex, e0])
  · have hof : over ∈ f.nm := w.perm.mem_iff.mpr ((List.mem_cons.mp ho).resolve_left e)
    refine ⟨_, Fo.insAt over k tk x f, ⟨kd, ?_, ?_, ?_, ?_⟩, ?_⟩
    · show (if ("" : Str) = x then _ else if ("" : Str) = over then _ else g ("" : Str)) = _
      rw [if_neg (fun z => hx0 z.symm), if_neg (fun z => e z.symm), Fo.tops_insAt, w.top]
    · exact Fo.Rep.insAt w.rep nd hof hxf rfl hk
    · exact (Fo.nm_insAt over k tk x f nd hof).trans ((w.perm.cons x).trans (List.perm_append_singleton x ks).symm)
    · intro z
      rcases List.mem_append.mp z with y | y
      · exact w.named y
      · exact hx0 (List.mem_singleton.mp y).symm
    · rintro rfl e hd e0 ex
      exact Fo.Dep.insAt hd ex
section
variable {K : PySem.W.Frag}
theorem wood_b1 {H : Hp} {D : Ends} {a d : Addr} {ks : List Str} {g : Str → List Str} {at_ : Str → Addr} {f : Fo} {x : Str} {x1 x4 x5 x6 x7 : Option V} (hd : DeckAt H a) (hda : d ≠ a) (w : Woody K H d ks g at_ f) (hx : x ∉ ("" : Str) :: ks) (hl : ks.length < 1000) (hlen : ∀ n ∈ ("" : Str) :: ks, (g n).length ≤ 1000)
    (q : ∀ (H' : Hp) (g' : Str → List Str) (at' : Str → Addr) (f' : Fo) (y4 y5 y6 y7 : Option V), (∀ b o, H b = some o → b ≠ a → b ≠ d → H' b = some o) → DeckAt H' a → Woody K H' d (ks ++ [x]) g' at' f' → D.nx [some (.ref a), x1, some (.ref d), some (.str x), y4, y5, y6, y7] H') :
    t_l_wood_b1 K D [some (.ref a), x1, some (.ref d), some (.str x), x4, x5, x6, x7] H := by
  unfold t_l_wood_b1
  walk_at "rd"
  refine ⟨d, _, rfl, w.kids.dict, fun l1 hl1 => ?_⟩
  have d1 : d ≠ l1 := ne_of_none w.kids.dict hl1
  refine ⟨d, _, rfl, by rw [upd_ne d1]; exact w.kids.dict, ?_⟩
  rw [kvs_len, keys_kvs]
  have kp1 : Kp H (upd H l1 (.lst ((("" : Str) :: ks).map V.str))) := (show Kp H H from fun _ _ h => h).new hl1
  have hd1 : DeckAt (upd H l1 (.lst ((("" : Str) :: ks).map V.str))) a := by
    obtain ⟨x, y, z, e⟩ := hd
    exact ⟨x, y, z, kp1 _ _ e⟩
  have l1a : l1 ≠ a := deck_ne hd hl1
  refine o_draw hd1 (by simp only [List.length_cons]; omega) (by simp only [List.length_cons]; omega) fun i H2 i0 i1 k2 => ?_
  have k02 : Dk a H H2 := ⟨fun b o e nb => k2.keep b o (kp1 b o e) nb, k2.deck⟩
  have w2 := w.deck k02 hd
  obtain ⟨over, hov⟩ : ∃ over, (("" : Str) :: ks)[i.toNat]? = some over := by
    rw [List.getElem?_eq_getElem (by have : i < ((("" : Str) :: ks).length : Int) := i1; omega)]
    exact ⟨_, rfl⟩
  have ho : over ∈ ("" : Str) :: ks := List.mem_of_getElem? hov
  refine o_ixL (k2.keep _ _ upd_same l1a) (v := .str over) (at_of (j := i.toNat) (by omega) (by rw [List.getElem?_map, hov]; rfl)) ?_
  walk_at "rd"
  refine ⟨d, _, rfl, w2.kids.get ho, ?_⟩
  have lo := w2.kids.lists over ho
  refine ⟨_, _, rfl, .inl (SqL.of lo), ?_⟩
  walk_at "rd"
  have hl1000 := hlen over ho
  refine o_draw k02.deck (by omega) (by simp; omega) fun k H3 a0 a1 k3 => ?_
  have k03 := k02.trans k3
  have w3 := w.deck k03 hd
  refine ⟨d, _, rfl, w3.kids.get ho, ?_⟩
  walk_at "rd"
  refine o_draw k03.deck (by decide) (by decide) fun c H4 c0 c1 k4 => ?_
  have k04 := k03.trans k4
  have w4 := w.deck k04 hd
  walk_at "rd"
  refine ⟨⟨by decide, by decide⟩, ?_⟩
  have lo4 := w4.kids.lists over ho
  refine ⟨_, _, rfl, .inl (SqL.of lo4), ?_⟩
  walk_at "rd"
  simp only [List.length_map] at a1 ⊢
  refine o_draw k04.deck (by omega) (by omega) fun t H5 t0 t1 k5 => ?_
  have k05 := k04.trans k5
  have w5 := w.deck k05 hd
  have lo5 := w5.kids.lists over ho
  walk_at "rd"
  refine ⟨.inl ⟨by omega, by omega⟩, ?_⟩
  obtain ⟨tk, htk, htk2⟩ : ∃ tk : Nat, c / 3 * t = (tk : Int) ∧ k.toNat + tk ≤ (g over).length := by
    have h3 : c / 3 = 0 ∨ c / 3 = 1 := by omega
    rcases h3 with h3 | h3 <;> rw [h3]
    · exact ⟨0, by omega, by omega⟩
    · exact ⟨t.toNat, by omega, by omega⟩
  rw [htk]
  have hk : k = ((k.toNat : Nat) : Int) := by omega
  have e1 : k + (tk : Int) = ((k.toNat + tk : Nat) : Int) := by omega
  generalize hkn : k.toNat = kn at hk e1 htk2
  subst hk
  rw [e1]
  have hz := sizeLine_eq
  refine ⟨at_ over, _, rfl, SqL.of lo5, fun p hp => ?_⟩
  generalize hG : upd H5 p _ = H6
  obtain ⟨k6, e6⟩ := gen_new hp hG
  clear hG
  have lo6 := k6 _ _ lo5
  refine ⟨d, _, rfl, DPut.k (k := (Sum.inr x : Key)) (k6 _ _ w5.kids.dict) (by rw [kvs_len]; simp only [List.length_cons]; omega), ?_⟩
  rw [put_new _ _ _ _ hx]
  generalize hG : upd H6 d _ = H7
  obtain ⟨k7, e7⟩ := gen_chg hG
  clear hG
  have opd : at_ over ≠ d := fun e => by rw [e, w5.kids.dict] at lo5; cases lo5
  have dp : d ≠ p := ne_of_none w5.kids.dict hp
  have lo7 := k7 _ _ lo6 opd
  refine ⟨at_ over, _, rfl, SqL.of lo7, fun p1 hp1 => ?_⟩
  generalize hG : upd H7 p1 _ = H8
  obtain ⟨k8, e8⟩ := gen_new hp1 hG
  clear hG
  refine ⟨by show 1 ≤ sizeLine; decide, fun p2 hp2 => ?_⟩
  generalize hG : upd H8 p2 _ = H9
  obtain ⟨k9, e9⟩ := gen_new hp2 hG
  clear hG
  refine ⟨p1, p2, _, _, rfl, rfl, k9 _ _ e8, e9, ?_, fun p3 hp3 => ?_⟩
  · have := cutV_length ((g over).map V.str) none (some ((kn : Nat) : Int))
    simp only [List.length_map] at this
    simp only [List.length_cons, List.length_nil]; omega
  generalize hG : upd H9 p3 _ = H10
  obtain ⟨k10, e10⟩ := gen_new hp3 hG
  clear hG
  refine ⟨at_ over, _, rfl, SqL.of (k10 _ _ (k9 _ _ (k8 _ _ lo7))), fun p4 hp4 => ?_⟩
  generalize hG : upd H10 p4 _ = H11
  obtain ⟨k11, e11⟩ := gen_new hp4 hG
  clear hG
  refine ⟨p3, p4, _, _, rfl, rfl, k11 _ _ e10, e11, ?_, fun p5 hp5 => ?_⟩
  · have h1 := cutV_length ((g over).map V.str) none (some ((kn : Nat) : Int))
    have h2 := cutV_length ((g over).map V.str) (some ((kn + tk : Nat) : Int)) none
    simp only [List.length_map] at h1 h2
    simp only [List.length_append, List.length_cons, List.length_nil]; omega
  generalize hG : upd H11 p5 _ = H12
  obtain ⟨k12, e12⟩ := gen_new hp5 hG
  clear hG
  have k712 : Kp H7 H12 := fun b o e => k12 _ _ (k11 _ _ (k10 _ _ (k9 _ _ (k8 _ _ e))))
  have k711 : Kp H7 H11 := fun b o e => k11 _ _ (k10 _ _ (k9 _ _ (k8 _ _ e)))
  walk_at "rd"
  refine ⟨d, _, rfl, DPut.k (k := (Sum.inr over : Key)) (k712 _ _ e7) (by rw [kvs_len]; simp only [List.length_cons, List.length_append, List.length_nil]; omega), ?_⟩
  rw [put_old _ _ _ _ (List.mem_append_left _ ho)]
  generalize hG : upd H12 d _ = H13
  obtain ⟨k13, e13⟩ := gen_chg hG
  clear hG
  have k5 : ∀ b o, H5 b = some o → b ≠ d → H13 b = some o := fun b o e nb => k13 _ _ (k712 _ _ (k7 _ _ (k6 _ _ e) nb)) nb
  have hdp5 : d ≠ p5 := ne_of_none (k711 _ _ e7) hp5
  have hpp5 : p ≠ p5 := ne_of_none (k711 _ _ (k7 _ _ e6 dp.symm)) hp5
  have h5p5 : H5 p5 = none := by
    cases e : H5 p5 with
    | none => rfl
    | some o => rw [k711 _ _ (k7 _ _ (k6 _ _ e) hdp5.symm)] at hp5; cases hp5
  obtain ⟨x0, y0, z0, da⟩ := k05.deck
  have hd13 : DeckAt H13 a := ⟨x0, y0, z0, k5 _ _ da hda.symm⟩
  have c1 : cutV ((g over).map V.str) (some ((kn : Nat) : Int)) (some ((kn + tk : Nat) : Int)) = (((g over).drop kn).take tk).map V.str := by
    rw [cutV_str, HT.sIx_nat, HT.sIx_nat, Nat.min_eq_left (by omega), Nat.min_eq_left (by omega)]
    congr 3; omega
  have c2 : cutV ((g over).map V.str) none (some ((kn : Nat) : Int)) = ((g over).take kn).map V.str := by
    rw [cutV_str, HT.sIx_none, HT.sIx_nat, Nat.min_eq_left (by omega)]; simp
  have c3 : cutV ((g over).map V.str) (some ((kn + tk : Nat) : Int)) none = ((g over).drop (kn + tk)).map V.str := by
    rw [cutV_str, HT.sIx_none, HT.sIx_nat, Nat.min_eq_left (by omega)]
    congr 1
    rw [List.take_of_length_le]; simp
  have kd := w5.kids.put2 (H1 := H13) (x := x) (over := over) (p := p) (q := p5) (l := ((g over).drop kn).take tk) (l2 := (g over).take kn ++ [x] ++ (g over).drop (kn + tk)) hx ho hp h5p5 hpp5 k5
    (by rw [← c1]; exact k13 _ _ (k712 _ _ (k7 _ _ e6 dp.symm)) dp.symm)
    (by rw [k13 _ _ e12 hdp5.symm, c2, c3]; simp)
    (by
      rw [e13]
      congr 2
      refine List.map_congr_left fun m _ => ?_
      by_cases q1 : m = over
      · simp only [if_pos q1]
      · by_cases q2 : m = x
        · simp only [if_neg q1, if_pos q2]
        · simp only [if_neg q1, if_neg q2])
  obtain ⟨g', f', w', _⟩ := w5.step hx ho (by omega) kd
  exact q H13 g' _ f' _ _ _ _ (fun b o e n1 n2 => k5 _ _ (k05.keep _ _ e n1) n2) hd13 w'

def sp_l_wood (K : PySem.W.Frag) : Sp := fun vs H Q _ => ∃ (a ns : Addr) (zs : List Str), vs = [.ref a, .ref ns] ∧ DeckAt H a ∧ SqL K H ns (zs.map V.str) ∧ ns ≠ a ∧ zs.Nodup ∧ (∀ z ∈ zs, IsName z) ∧ zs.length ≤ 100 ∧
  ∀ (p : Addr) (H' : Hp) (f : Fo), Dk a H H' → WoodAt K H' p f → f.nm.Perm zs → Q (.ref p) H'
theorem len_l_wood (vs : List V) (H : Hp) (Q : VK) (E : XK) (h : sp_l_wood K vs H Q E) : vs.length = 2 := by
  obtain ⟨_, _, _, rfl, _⟩ := h
  rfl
theorem IsName.ne {z : Str} (h : IsName z) : z ≠ ("" : Str) := fun e => by
  have h1 := h.one
  rw [e] at h1
  exact absurd h1 (by decide +kernel)
theorem SqL.keep {H H' : Hp} {a b : Addr} {xs : List V} (h : SqL K H a xs) (hab : a ≠ b) (k : ∀ c o, H c = some o → c ≠ b → H' c = some o) : SqL K H' a xs := by
  rcases h with (h | ⟨o, h⟩) | h
  · exact .inl (.inl (k _ _ h hab))
  · exact .inl (.inr ⟨o, k _ _ h hab⟩)
  · exact .inr h
theorem kids_len {H : Hp} {d : Addr} {ks : List Str} {g : Str → List Str} {at_ : Str → Addr} {f : Fo} (w : Woody K H d ks g at_ f) : ∀ n ∈ ("" : Str) :: ks, (g n).length ≤ ks.length := by
  have hp := w.perm.length_eq
  intro n hn
  rcases List.mem_cons.mp hn with e | hn
  · rw [e, w.top]; have := tops_len f; omega
  · have hf : n ∈ f.nm := w.perm.mem_iff.mpr hn
    have := rep_len w.rep hf
    omega
where
  rep_len {g : Str → List Str} : ∀ {f : Fo} {n : Str}, f.Rep g → n ∈ f.nm → (g n).length ≤ f.nm.length
    | .nil, _, _, h => by simp [Fo.nm] at h
    | .cons m ks r, n, hr, h => by
      rcases List.mem_cons.mp (show n ∈ m :: (ks.nm ++ r.nm) from h) with e | h
      · rw [e, hr.1]; have := tops_len ks; simp only [Fo.nm, List.length_cons, List.length_append]; omega
      · rcases List.mem_append.mp h with h | h
        · have := rep_len hr.2.1 h; simp only [Fo.nm, List.length_cons, List.length_append]; omega
        · have := rep_len hr.2.2 h; simp only [Fo.nm, List.length_cons, List.length_append]; omega
theorem pure_l_wood (vs : List V) (H : Hp) (Q : VK) (E : XK) (h : sp_l_wood K vs H Q E) : t_l_wood K { nx := fun _ H' => Q .non H', rt := Q } (startN 8 vs) H := by
  obtain ⟨a, ns, zs, rfl, hd, hs, hna, nd, hnm, hl, q⟩ := h
  show t_l_wood K _ [some (.ref a), some (.ref ns), none, none, none, none, none, none] H
  unfold t_l_wood
  walk_at "rd"
  intro d hdn
  generalize hG : upd H d _ = H1
  obtain ⟨k1, e1⟩ := gen_new hdn hG
  clear hG
  refine ⟨Nat.zero_le _, fun l hln => ?_⟩
  generalize hG : upd H1 l _ = H2
  obtain ⟨k2, e2⟩ := gen_new hln hG
  clear hG
  refine ⟨k2 _ _ e1, [((Sum.inr ("" : Str) : Key), .ref l)], rfl, by show 1 ≤ 15; decide, ?_⟩
  generalize hG : upd H2 d _ = H3
  obtain ⟨k3, e3⟩ := gen_chg hG
  clear hG
  have hdl : d ≠ l := ne_of_none e1 hln
  have hda : d ≠ a := deck_ne hd hdn
  have k03 : ∀ b o, H b = some o → b ≠ a → H3 b = some o := fun b o e nb => k3 _ _ (k2 _ _ (k1 _ _ e)) (ne_of_none e hdn)
  obtain ⟨x0, y0, z0, da⟩ := hd
  have hd : DeckAt H a := ⟨x0, y0, z0, da⟩
  have d3 : DeckAt H3 a := ⟨x0, y0, z0, k3 _ _ (k2 _ _ (k1 _ _ da)) hda.symm⟩
  have kk : Dk a H H3 := ⟨k03, d3⟩
  walk_at "rd"
  have hs3 : SqL K H3 ns (zs.map V.str) := SqL.keep hs hna k03
  refine ⟨⟨_, hs3⟩, ?_⟩
  refine fb_list (xs := zs.map V.str) (fun i σ H4 => Dk a H H4 ∧ ∃ g at_ f y3 y4 y5 y6 y7, Woody K H4 d (zs.take i) g at_ f ∧ σ = [some (.ref a), some (.ref ns), some (.ref d), y3, y4, y5, y6, y7]) ?_ ?_ ?_ ?_
  · refine ⟨kk, fun _ => [], fun _ => l, .nil, _, _, _, _, _, ⟨⟨?_, ?_, ?_, ?_⟩, rfl, trivial, List.Perm.refl _, by simp⟩, rfl⟩
    · rw [e3]; rfl
    · intro n hn
      have e := List.mem_singleton.mp hn
      exact k3 _ _ e2 hdl.symm
    · intro n hn m hm _
      rw [List.mem_singleton.mp hn, List.mem_singleton.mp hm]
    · simp
  · rintro i σ H4 _ ⟨k4, _⟩
    exact SqL.keep hs hna k4.keep
  · rintro i x σ H4 hx ⟨k4, g, at_, f, y3, y4, y5, y6, y7, w, rfl⟩
    obtain ⟨z, hz, rfl⟩ : ∃ z, zs[i]? = some z ∧ x = .str z := by
      rw [List.getElem?_map] at hx
      cases e : zs[i]? with
      | none => rw [e] at hx; cases hx
      | some z => rw [e] at hx; exact ⟨z, rfl, (Option.some.inj hx).symm⟩
    have hzi : z ∈ zs := List.mem_of_getElem? hz
    have hi : i < zs.length := (List.getElem?_eq_some_iff.mp hz).1
    walk_at "rd"
    have hnew : z ∉ ("" : Str) :: zs.take i := by
      intro h
      rcases List.mem_cons.mp h with e | h
      · exact (hnm z hzi).ne e
      · obtain ⟨j, hj, e⟩ := List.mem_take_iff_getElem.mp h
        obtain ⟨_, e2⟩ := List.getElem?_eq_some_iff.mp hz
        have := (List.getElem_inj nd).mp (e.trans e2.symm)
        omega
    have hkl := kids_len w
    have htl : (zs.take i).length ≤ 100 := by rw [List.length_take]; omega
    refine wood_b1 k4.deck hda w hnew (by omega) (fun n hn => by have := hkl n hn; omega) fun H5 g' at' f' y4 y5 y6 y7 k5 d5 w5 => ?_
    refine ⟨⟨fun b o e nb => k5 _ _ (k4.keep _ _ e nb) nb (ne_of_none e hdn), d5⟩, g', at', f', _, _, _, _, _, ?_, rfl⟩
    rw [List.take_add_one, hz]
    exact w5
  · rintro σ H4 ⟨k4, g, at_, f, y3, y4, y5, y6, y7, w, rfl⟩
    rw [List.length_map, List.take_length] at w
    walk_at "rd"
    have hpl := w.perm.length_eq
    refine ⟨d, ("" : Str), _, g, at_, f, rfl, w.kids, List.mem_cons_self .., w.top, w.rep, fun x hx => List.mem_cons_of_mem _ (w.perm.mem_iff.mp hx), by have := Fo.dp_le f; show f.dp ≤ 120; omega, by omega, fun p H5 k5 hw => ?_⟩
    obtain ⟨x1, y1, z1, da4⟩ := k4.deck
    exact q p H5 f ⟨fun b o e nb => k5 _ _ (k4.keep _ _ e nb), x1, y1, z1, k5 _ _ da4⟩ hw w.perm
end
end Tw
set_option Elab.async false
set_option linter.all false
set_option maxRecDepth 100000
set_option maxHeartbeats 4000000
namespace Tw
open PySem PySem.Spec PyProof.Rows L2 TL
section
variable {K : PySem.W.Frag} {σ : L2.St} {H : Hp} {Q : VK} {td : TE} {D : Ends} {t : TS}
theorem o_lock : tLock t D σ H = ∃ d u, H d = some u ∧ Mut (some u) ∧ ∀ od, t ⟨fun σ' H' => H' d = some (.frz od u) ∧ D.nx σ' (upd H' d u), fun v H' => H' d = some (.frz od u) ∧ D.rt v (upd H' d u), fun σ' H' => H' d = some (.frz od u) ∧ D.bk σ' (upd H' d u), fun σ' H' => H' d = some (.frz od u) ∧ D.ct σ' (upd H' d u)⟩ σ (upd H d (.frz od u)) := rfl
theorem o_keysM {R : It → Hp → Prop} : iKeysM td σ H R = td σ H fun x H1 => ∃ d o kvs, x = .ref d ∧ H1 d = some (.frz o (.dK kvs)) ∧ R (Itk d o kvs) H1 := rfl
theorem o_gtup {n : Nat} {t : TGs} {v : V} {Q : L2.St → Hp → Prop} : gTup K n t v σ H Q = ∃ a xs, v = .ref a ∧ SqT K H a xs ∧ xs.length = n ∧ t xs σ H Q := rfl
theorem o_gcons {t : TG} {u : TGs} {vs : List V} {Q : L2.St → Hp → Prop} : gCons t u vs σ H Q = ∃ v r, vs = v :: r ∧ t v σ H fun σ' H' => u r σ' H' Q := rfl
theorem o_gnil {vs : List V} {Q : L2.St → Hp → Prop} : gNil vs σ H Q = (vs = [] ∧ Q σ H) := rfl
theorem o_catA {x y : V} : rCatA K x y H Q = ∃ a b xs ys, x = .ref a ∧ y = .ref b ∧ SqT K H a xs ∧ SqT K H b ys ∧ xs.length + ys.length ≤ sizeLine ∧ (xs = [] → Q (.ref b) H) ∧ (xs ≠ [] → ys = [] → Q (.ref a) H) ∧ (xs ≠ [] → ys ≠ [] → ∀ p, H p = none → Q (.ref p) (upd H p (.tup (xs ++ ys)))) := rfl
end
local macro_rules | `(tactic| walk_at "rd") => `(tactic| try simp only [o_op, o_un, o_var, o_c, o_cb, o_call, o_cons, o_nil, o_tup, o_lst, o_I0, o_I, o_int1, o_intb, o_abs, o_test, o_b, o_not, o_and, o_or, o_andV, o_orV, o_notV, o_ifE, o_isN, o_notN, o_eq, o_ne, o_seq, o_next, o_asg, o_name, o_sub, o_par, o_par3, o_drop, o_ret, o_retN, o_ifS, o_sl, o_noPart, o_part, o_bm, o_bm0, o_m0, o_m1, o_dget, o_dput, o_din, o_dnotin, o_listKeys, e_bl, e_int, e_str, e_some, e_two, e_three, o_for, o_lc, o_iList, o_iTup, o_iRng1, e_int1, e_ref, o_yes, o_wipe0, o_wipe1, o_disp, o_dnew, o_pairs0, o_pairs1, o_lock, o_keysM, o_gtup, o_gcons, o_gnil, o_catA, true_and, if_pos, List.getElem?_cons_zero, List.getElem?_cons_succ, List.set_cons_zero, List.set_cons_succ, List.append_nil])
def t_l_tall_wood_r1 (K : PySem.W.Frag) : TS :=
  (tSeq (tAsg (tDGet (tVar 3) (tVar 5)) (gName 9))
  (tSeq (tDrop (tBM K "list" rInsert (tVar 9) (tCons (tCall sp_l_draw [] E0 (tCons (tVar 0) (tCons (tOp (rI0 fun i j => .int (i + j)) (tCB (rLenSeq K) (tCons (tVar 9) tNil)) (tC (.int 1))) tNil))) (tCons (tVar 7) tNil))))
  (tSeq (sDPut (tVar 3) (tVar 7) (tLst tNil))
  (tSeq (sDPut (tVar 4) (tVar 7) (tOp (rI0 fun i j => .int (i + j)) (tDGet (tVar 4) (tVar 5)) (tC (.int 1))))
  (tAsg (tVar 7) (gName 5))))))
def t_l_tall_wood_b1 (K : PySem.W.Frag) : TS :=
  (tSeq (tAsg (tOp (rIxL K) (tVar 1) (tVar 6)) (gName 7))
  (C8.tCut (tIfS (tTest (tOp (rI0 fun i j => .bl (decide (j ≤ i))) (tVar 6) (tVar 2))) (tSeq (tLock (tAsg (tLc (iKeysM (tVar 3)) (gName 10) (tTest (tOp (rI0 fun i j => .bl (decide (i < j))) (tDGet (tVar 4) (tVar 10)) (tVar 2))) (tVar 10) [10]) (gName 8)))
  (tAsg (tOp (rIxL K) (tVar 8) (tCall sp_l_draw [] E0 (tCons (tVar 0) (tCons (tCB (rLenSeq K) (tCons (tVar 8) tNil)) tNil)))) (gName 5))) tNext)
  (t_l_tall_wood_r1 K)))
def t_l_tall_wood (K : PySem.W.Frag) : TS :=
  (tSeq (tAsg (tTup (tCons (tDisp [((tC (.str "")), (tLst tNil))]) (tCons (tDisp [((tC (.str "")), (tC (.int 0)))]) tNil))) (gTup K 2 (gCons (gName 3) (gCons (gName 4) gNil))))
  (tSeq (tAsg (tC (.str "")) (gName 5))
  (tSeq (tFor (iRng1 (tCons (tCB (rLenSeq K) (tCons (tVar 1) tNil)) tNil)) (gName 6)
  (t_l_tall_wood_b1 K))
  (tRet (tCall (spW K 121) [] E0 (tCons (tVar 3) (tCons (tC (.str "")) tNil)))))))
section
variable {H H1 : Hp} {d : Addr} {ks : List Str} {g : Str → List Str} {at_ : Str → Addr}
/-- a name put into the list of over, where it stands; a new list for it -/
theorem Kids.ins (k : Kids H d ks g at_) {x over : Str} {p : Addr} {kk : Nat} (hx : x ∉ ks) (ho : over ∈ ks) (hp : H p = none)
    (h : ∀ n ∈ ks, n ≠ over → H1 (at_ n) = some (.lst ((g n).map V.str))) (h1 : H1 p = some (.lst [])) (h2 : H1 (at_ over) = some (.lst (((g over).take kk ++ [x] ++ (g over).drop kk).map V.str))) (hd : H1 d = some (.dK (kvs (ks ++ [x]) fun n => .ref (if n = over then at_ over else if n = x then p else at_ n)))) :
    Kids H1 d (ks ++ [x]) (fun n => if n = x then ((g over).drop kk).take 0 else if n = over then (g over).take kk ++ [x] ++ (g over).drop (kk + 0) else g n) (fun n => if n = over then at_ over else if n = x then p else at_ n) := by
  have hxo : x ≠ over := fun e => hx (e ▸ ho)
  have no : ∀ n ∈ ks, at_ n ≠ p := fun n hn e => by have := k.lists n hn; rw [e, hp] at this; cases this
  have hdn : ∀ n ∈ ks, at_ n ≠ d := fun n hn e => by have := k.lists n hn; rw [e, k.dict] at this; cases this
  have old : ∀ n ∈ ks ++ [x], n ≠ x → n ∈ ks := fun n hn z => by
    rcases List.mem_append.mp hn with y | y
    · exact y
    · exact absurd (List.mem_singleton.mp y) z
  refine ⟨hd, fun n hn => ?_, fun n hn m hm e => ?_, nodup_snoc k.nd hx⟩
  · show H1 (if n = over then at_ over else if n = x then p else at_ n) = some (.lst ((if n = x then _ else if n = over then _ else g n).map V.str))
    by_cases e1 : n = over
    · have e2 : ¬ n = x := fun z => hxo (z.symm.trans e1)
      rw [if_pos e1, if_neg e2, if_pos e1]; exact h2
    · by_cases e2 : n = x
      · rw [if_neg e1, if_pos e2, if_pos e2]; simpa using h1
      · rw [if_neg e1, if_neg e2, if_neg e2, if_neg e1]
        have hn' := old n hn e2
        exact h n hn' e1
  · have e : (if n = over then at_ over else if n = x then p else at_ n) = (if m = over then at_ over else if m = x then p else at_ m) := e
    by_cases a1 : n = over
    · rw [if_pos a1] at e
      by_cases b1 : m = over
      · rw [a1, b1]
      · rw [if_neg b1] at e
        by_cases b2 : m = x
        · rw [if_pos b2] at e; exact absurd e (no over ho)
        · rw [if_neg b2] at e; exact (a1.trans (k.inj over ho m (old m hm b2) e))
    · rw [if_neg a1] at e
      by_cases a2 : n = x
      · rw [if_pos a2] at e
        by_cases b1 : m = over
        · rw [if_pos b1] at e; exact absurd e.symm (no over ho)
        · rw [if_neg b1] at e
          by_cases b2 : m = x
          · rw [a2, b2]
          · rw [if_neg b2] at e; exact absurd e.symm (no m (old m hm b2))
      · rw [if_neg a2] at e
        by_cases b1 : m = over
        · rw [if_pos b1] at e; exact (k.inj n (old n hn a2) over ho e).trans b1.symm
        · rw [if_neg b1] at e
          by_cases b2 : m = x
          · rw [if_pos b2] at e; exact absurd e (no n (old n hn a2))
          · rw [if_neg b2] at e; exact k.inj n (old n hn a2) m (old m hm b2) e
end
section
variable {K : PySem.W.Frag}
/-- what the loop of tall_wood keeps: the kids, the depths -/
structure Tall (K : PySem.W.Frag) (H : Hp) (d dd : Addr) (tall : Int) (ks : List Str) (g : Str → List Str) (at_ : Str → Addr) (f : Fo) (e : Str → Nat) : Prop where
  w : Woody K H d ks g at_ f
  deep : H dd = some (.dK (kvs (("" : Str) :: ks) fun n => .int (e n)))
  dep : f.Dep e 0
  e0 : e ("" : Str) = 0
  le : ∀ n ∈ ("" : Str) :: ks, (e n : Int) ≤ tall
theorem tall_r1 {H : Hp} {D : Ends} {a d dd : Addr} {tall : Int} {ks : List Str} {g : Str → List Str} {at_ : Str → Addr} {f : Fo} {e : Str → Nat} {x over : Str} {x1 x2 x6 x8 x9 x10 : Option V} (hd : DeckAt H a) (hda : d ≠ a) (hdda : dd ≠ a) (w : Tall K H d dd tall ks g at_ f e) (hx : x ∉ ("" : Str) :: ks) (ho : over ∈ ("" : Str) :: ks) (he : (e over : Int) < tall) (hl : ks.length < 1000)
    (q : ∀ (H' : Hp) (g' : Str → List Str) (at' : Str → Addr) (f' : Fo) (e' : Str → Nat) (y9 : Option V), (∀ b o, H b = some o → b ≠ a → b ≠ d → b ≠ dd → b ≠ at_ over → H' b = some o) → DeckAt H' a → (∀ n ∈ ("" : Str) :: ks ++ [x], (n ∈ ("" : Str) :: ks ∧ at' n = at_ n) ∨ H (at' n) = none) → Tall K H' d dd tall (ks ++ [x]) g' at' f' e' → e' x = e over + 1 → D.nx [some (.ref a), x1, x2, some (.ref d), some (.ref dd), some (.str x), x6, some (.str x), x8, y9, x10] H') :
    t_l_tall_wood_r1 K D [some (.ref a), x1, x2, some (.ref d), some (.ref dd), some (.str over), x6, some (.str x), x8, x9, x10] H := by
  unfold t_l_tall_wood_r1
  have hz := sizeLine_eq
  have hkl := kids_len w.w over ho
  walk_at "rd"
  refine ⟨d, _, rfl, w.w.kids.get ho, ?_⟩
  walk_at "rd"
  have lo := w.w.kids.lists over ho
  refine ⟨.inl ⟨rfl, _, SqL.of lo⟩, _, _, rfl, .inl (SqL.of lo), ?_⟩
  walk_at "rd"
  simp only [List.length_map]
  refine o_draw hd (by omega) (by omega) fun k H2 k0 k1 k2 => ?_
  have w2 := w.w.deck k2 hd
  have lo2 := w2.kids.lists over ho
  have dd2 := k2.keep _ _ w.deep hdda
  walk_at "rd"
  refine ⟨at_ over, _, k, _, rfl, rfl, lo2, by simp; omega, k0, by omega, ?_⟩
  generalize hG : upd H2 (at_ over) _ = H3
  obtain ⟨k3, e3⟩ := gen_chg hG
  clear hG
  refine ⟨Nat.zero_le _, fun p hp => ?_⟩
  generalize hG : upd H3 p _ = H4
  obtain ⟨k4, e4⟩ := gen_new hp hG
  clear hG
  have opd : at_ over ≠ d := fun z => by rw [z, w2.kids.dict] at lo2; cases lo2
  have opdd : at_ over ≠ dd := fun z => by rw [z, dd2] at lo2; cases lo2
  have dne : d ≠ dd := by
    intro z
    have h1 := w2.kids.dict
    rw [z, dd2] at h1
    have h2 : kvs (("" : Str) :: ks) (fun n => V.int (e n)) = kvs (("" : Str) :: ks) (fun n => V.ref (at_ n)) := HO.dK.inj (Option.some.inj h1)
    have h3 : V.int (e ("" : Str)) = V.ref (at_ ("" : Str)) := congrArg (fun l : List (Key × V) => match l with | p :: _ => p.2 | [] => .non) h2
    cases h3
  have d4 := k4 _ _ (k3 _ _ w2.kids.dict opd.symm)
  refine ⟨d, _, rfl, DPut.k (k := (Sum.inr x : Key)) d4 (by rw [kvs_len]; simp only [List.length_cons]; omega), ?_⟩
  rw [put_new _ _ _ _ hx]
  generalize hG : upd H4 d _ = H5
  obtain ⟨k5, e5⟩ := gen_chg hG
  clear hG
  have dd5 := k5 _ _ (k4 _ _ (k3 _ _ dd2 opdd.symm)) dne.symm
  have gdd : DGet H5 dd (.str over) (some (.int (e over))) := by
    have h := DGet.k (k := (Sum.inr over : Key)) dd5
    rw [valV_kvs, if_pos ho] at h
    exact h
  refine ⟨dd, _, rfl, gdd, ?_⟩
  walk_at "rd"
  refine ⟨dd, _, rfl, DPut.k (k := (Sum.inr x : Key)) dd5 (by rw [kvs_len]; simp only [List.length_cons]; omega), ?_⟩
  rw [put_new _ _ _ _ hx]
  generalize hG : upd H5 dd _ = H6
  obtain ⟨k6, e6⟩ := gen_chg hG
  clear hG
  have hk : k = ((k.toNat : Nat) : Int) := by omega
  generalize hkn : k.toNat = kn at *
  subst hk
  have hx0 : ¬ x = ("" : Str) := fun e => hx (e ▸ List.mem_cons_self ..)
  have hxo : ¬ over = x := fun z => hx (z ▸ ho)
  have k26 : ∀ b o, H2 b = some o → b ≠ d → b ≠ at_ over → b ≠ dd → H6 b = some o := fun b o z n1 n2 n3 => k6 _ _ (k5 _ _ (k4 _ _ (k3 _ _ z n2)) n1) n3
  have pdd : p ≠ dd := fun z => by rw [z, k3 _ _ dd2 opdd.symm] at hp; cases hp
  have pd : p ≠ d := fun z => by rw [z, k3 _ _ w2.kids.dict opd.symm] at hp; cases hp
  have po : p ≠ at_ over := fun z => by rw [z, e3] at hp; cases hp
  have hp2 : H2 p = none := by
    cases z : H2 p with
    | none => rfl
    | some o => rw [k3 _ _ z po] at hp; cases hp
  have kd : Kids H6 d ((("" : Str) :: ks) ++ [x]) _ _ := Kids.ins (kk := kn) w2.kids hx ho hp2
    (H1 := H6) (fun n hn hno => by
      have ln := w2.kids.lists n hn
      exact k26 _ _ ln (fun z => by rw [z, w2.kids.dict] at ln; cases ln) (fun z => hno (w2.kids.inj n hn over ho z)) (fun z => by rw [z, dd2] at ln; cases ln))
    (k6 _ _ (k5 _ _ e4 pd) pdd)
    (by rw [k6 _ _ (k5 _ _ (k4 _ _ e3) opd) opdd]; simp)
    (by
      rw [k6 _ _ e5 dne]
      congr 2
      refine List.map_congr_left fun m _ => ?_
      by_cases q1 : m = x
      · have q2 : ¬ m = over := fun z => hxo (z.symm.trans q1)
        simp only [if_pos q1, if_neg q2]
      · by_cases q2 : m = over
        · subst q2; simp [if_neg q1]
        · simp only [if_neg q1, if_neg q2])
  obtain ⟨g', f', w', hdep⟩ := w2.step hx ho (k := kn) (tk := 0) (by omega) kd
  have hn0 : ∀ n ∈ f.nm, n ≠ x := fun n hn z => hx (List.mem_cons_of_mem _ (w.w.perm.mem_iff.mp (z ▸ hn)))
  obtain ⟨xa, ya, za, da⟩ := k2.deck
  have apo : a ≠ at_ over := fun z => by
    rw [← z, da] at lo2
    have h3 : [V.int xa, V.int ya, V.int za] = (g over).map V.str := HO.lst.inj (Option.some.inj lo2)
    cases hg : g over with
    | nil => rw [hg] at h3; cases h3
    | cons s r => rw [hg] at h3; cases h3
  refine q H6 g' _ f' (fun n => if n = x then e over + 1 else e n) _ (fun b o z n1 n2 n3 n4 => k26 _ _ (k2.keep _ _ z n1) n2 n4 n3) ⟨xa, ya, za, k26 _ _ da hda.symm apo hdda.symm⟩ (fun n hn => ?_) ⟨w', ?_, ?_, ?_, ?_⟩ (if_pos rfl)
  · by_cases q1 : n = over
    · exact .inl ⟨q1 ▸ ho, by subst q1; simp⟩
    · by_cases q2 : n = x
      · right
        simp only [if_neg q1, if_pos q2]
        cases z : H p with
        | none => rfl
        | some o =>
          by_cases pa : p = a
          · rw [pa, da] at hp2; cases hp2
          · rw [k2.keep _ _ z pa] at hp2; cases hp2
      · refine .inl ⟨?_, by simp only [if_neg q1, if_neg q2]⟩
        rcases List.mem_append.mp (show n ∈ (("" : Str) :: ks) ++ [x] from hn) with y | y
        · exact y
        · exact absurd (List.mem_singleton.mp y) q2
  · rw [e6]
    congr 2
    refine List.map_congr_left fun m _ => ?_
    by_cases q1 : m = x
    · simp only [if_pos q1]; rfl
    · simp only [if_neg q1]
  · refine hdep rfl _ (w.dep.congr fun n hn => if_neg (hn0 n hn)) (by rw [if_neg (fun z => hx0 z.symm)]; exact w.e0) ?_
    simp only [if_pos, if_neg hxo]
  · rw [if_neg (fun z => hx0 z.symm)]; exact w.e0
  · intro n hn
    by_cases q1 : n = x
    · simp only [if_pos q1]; omega
    · simp only [if_neg q1]
      refine w.le n ?_
      rcases List.mem_append.mp (show n ∈ (("" : Str) :: ks) ++ [x] from hn) with y | y
      · exact y
      · exact absurd (List.mem_singleton.mp y) q1

theorem Fo.Dep.le {e : Str → Nat} : ∀ {f : Fo} {l : Nat}, Fo.Dep e l f → ∀ n ∈ f.nm, e n ≤ l + f.dp
  | .nil, _, _, n, h => by cases h
  | .cons m ks r, l, ⟨h1, h2, h3⟩, n, h => by
    rcases List.mem_cons.mp h with rfl | h
    · simp only [Fo.dp]; omega
    · rcases List.mem_append.mp h with h | h
      · have := Fo.Dep.le h2 n h; simp only [Fo.dp]; omega
      · have := Fo.Dep.le h3 n h; simp only [Fo.dp]; omega
def sp_l_tall_wood (K : PySem.W.Frag) : Sp := fun vs H Q _ => ∃ (a ns : Addr) (zs : List Str) (tall : Int), vs = [.ref a, .ref ns, .int tall] ∧ DeckAt H a ∧ SqL K H ns (zs.map V.str) ∧ ns ≠ a ∧ zs.Nodup ∧ (∀ z ∈ zs, IsName z) ∧ zs.length ≤ 300 ∧ 1 ≤ tall ∧ tall ≤ 120 ∧
  ∀ (p : Addr) (H' : Hp) (f : Fo), Dk a H H' → WoodAt K H' p f → f.nm.Perm zs → (f.dp : Int) ≤ tall → ((zs.length : Int) ≤ tall → zs.length ≤ f.dp) → Q (.ref p) H'
theorem len_l_tall_wood (vs : List V) (H : Hp) (Q : VK) (E : XK) (h : sp_l_tall_wood K vs H Q E) : vs.length = 3 := by
  obtain ⟨_, _, _, _, rfl, _⟩ := h
  rfl
theorem o_ixLq {p : Addr} {xs : List V} {i : Int} {v : V} {H : Hp} {Q : VK} (h : SqL K H p xs) (e : atI xs i = some v) (q : Q v H) : rIxL K (.ref p) (.int i) H Q := ⟨p, xs, i, v, rfl, rfl, h, e, q⟩
theorem pure_l_tall_wood (vs : List V) (H : Hp) (Q : VK) (E : XK) (h : sp_l_tall_wood K vs H Q E) : t_l_tall_wood K { nx := fun _ H' => Q .non H', rt := Q } (startN 11 vs) H := by
  obtain ⟨a, ns, zs, tall, rfl, hd, hs, hna, nd, hnm, hl, t1, t2, q⟩ := h
  show t_l_tall_wood K _ [some (.ref a), some (.ref ns), some (.int tall), none, none, none, none, none, none, none, none] H
  unfold t_l_tall_wood
  have hz := sizeLine_eq
  walk_at "rd"
  intro d hdn
  generalize hG : upd H d _ = H1
  obtain ⟨k1, e1⟩ := gen_new hdn hG
  clear hG
  refine ⟨Nat.zero_le _, fun l hln => ?_⟩
  generalize hG : upd H1 l _ = H2
  obtain ⟨k2, e2⟩ := gen_new hln hG
  clear hG
  refine ⟨k2 _ _ e1, [((Sum.inr ("" : Str) : Key), .ref l)], rfl, by show 1 ≤ 15; decide, ?_⟩
  generalize hG : upd H2 d _ = H3
  obtain ⟨k3, e3⟩ := gen_chg hG
  clear hG
  intro dd hddn
  generalize hG : upd H3 dd _ = H4
  obtain ⟨k4, e4⟩ := gen_new hddn hG
  clear hG
  refine ⟨e4, [((Sum.inr ("" : Str) : Key), .int 0)], rfl, by show 1 ≤ 15; decide, ?_⟩
  generalize hG : upd H4 dd _ = H5
  obtain ⟨k5, e5⟩ := gen_chg hG
  clear hG
  refine ⟨by show 2 ≤ sizeLine; omega, fun tp htp => ?_⟩
  generalize hG : upd H5 tp _ = H6
  obtain ⟨k6, e6⟩ := gen_new htp hG
  clear hG
  refine ⟨tp, _, rfl, SqT.of e6, rfl, _, _, rfl, _, _, rfl, rfl, ?_⟩
  have hdl : d ≠ l := ne_of_none e1 hln
  have hddd : d ≠ dd := ne_of_none e3 hddn
  have hldd : l ≠ dd := ne_of_none (k3 _ _ e2 hdl.symm) hddn
  have hda : d ≠ a := deck_ne hd hdn
  have hdd0 : H dd = none := by
    cases z : H dd with
    | none => rfl
    | some o => rw [k3 _ _ (k2 _ _ (k1 _ _ z)) hddd.symm] at hddn; cases hddn
  have hl0 : H l = none := by
    cases z : H l with
    | none => rfl
    | some o => rw [k1 _ _ z] at hln; cases hln
  have hdda : dd ≠ a := deck_ne hd hdd0
  have k06 : ∀ b o, H b = some o → H6 b = some o := fun b o e => k6 _ _ (k5 _ _ (k4 _ _ (k3 _ _ (k2 _ _ (k1 _ _ e)) (ne_of_none e hdn))) (ne_of_none e hdd0))
  obtain ⟨x0, y0, z0, da⟩ := hd
  have hd : DeckAt H a := ⟨x0, y0, z0, da⟩
  have kk : Dk a H H6 := ⟨fun b o e _ => k06 b o e, x0, y0, z0, k06 _ _ da⟩
  walk_at "rd"
  refine ⟨ns, _, rfl, .inl (SqL.keep hs hna kk.keep), ?_⟩
  simp only [List.length_map]
  walk_at "rd"
  refine ⟨by omega, by omega, ?_⟩
  rw [Int.toNat_natCast]
  refine fb_range (fun i σ H7 => Dk a H H7 ∧ ∃ g at_ f e over y6 y7 y8 y9 y10, Tall K H7 d dd tall (zs.take i) g at_ f e ∧ (∀ n ∈ ("" : Str) :: zs.take i, H (at_ n) = none) ∧ over ∈ ("" : Str) :: zs.take i ∧ ((i : Int) ≤ tall → e over = i) ∧ σ = [some (.ref a), some (.ref ns), some (.int tall), some (.ref d), some (.ref dd), some (.str over), y6, y7, y8, y9, y10]) ?_ ?_ ?_
  · refine ⟨kk, fun _ => [], fun _ => l, .nil, fun _ => 0, ("" : Str), _, _, _, _, _, ⟨⟨⟨?_, ?_, ?_, ?_⟩, rfl, trivial, List.Perm.refl _, by simp⟩, ?_, trivial, rfl, ?_⟩, fun _ _ => hl0, List.mem_cons_self .., fun _ => rfl, rfl⟩
    · rw [k6 _ _ (k5 _ _ (k4 _ _ e3) hddd)]; rfl
    · intro n hn
      exact k6 _ _ (k5 _ _ (k4 _ _ (k3 _ _ e2 hdl.symm)) hldd)
    · intro n hn m hm _
      rw [List.mem_singleton.mp hn, List.mem_singleton.mp hm]
    · simp
    · rw [k6 _ _ e5]; rfl
    · intro n hn; show ((0 : Nat) : Int) ≤ tall; omega
  · rintro i σ H7 hi ⟨k7, g, at_, f, e, over, y6, y7, y8, y9, y10, w, hat, ho, hov, rfl⟩
    obtain ⟨z, hzz⟩ : ∃ z, zs[i]? = some z := ⟨zs[i], List.getElem?_eq_getElem hi⟩
    have hzi : z ∈ zs := List.mem_of_getElem? hzz
    have htl : (zs.take i).length = i := by rw [List.length_take]; omega
    have hnew : z ∉ ("" : Str) :: zs.take i := by
      intro h
      rcases List.mem_cons.mp h with e | h
      · exact (hnm z hzi).ne e
      · obtain ⟨j, hj, e⟩ := List.mem_take_iff_getElem.mp h
        obtain ⟨_, e2⟩ := List.getElem?_eq_some_iff.mp hzz
        have := (List.getElem_inj nd).mp (e.trans e2.symm)
        omega
    unfold t_l_tall_wood_b1
    walk_at "rd"
    refine o_ixLq (v := .str z) (SqL.keep hs hna k7.keep) (at_of (j := i) (by omega) (by rw [List.getElem?_map, hzz]; rfl)) ?_
    -- the node over which it comes
    refine ⟨fun σ' H' => Dk a H H' ∧ ∃ over y8 y9 y10, Tall K H' d dd tall (zs.take i) g at_ f e ∧ over ∈ ("" : Str) :: zs.take i ∧ (e over : Int) < tall ∧ ((i : Int) < tall → e over = i) ∧ σ' = [some (.ref a), some (.ref ns), some (.int tall), some (.ref d), some (.ref dd), some (.str over), some (.int (0 + (i : Int))), some (.str z), y8, y9, y10], ?_, ?_⟩
    · walk_at "rd"
      refine ite2 (fun hge => ?_) fun hlt => ?_
      · have hge : tall ≤ 0 + (i : Int) := of_decide_eq_true hge
        refine ⟨d, _, w.w.kids.dict, trivial, fun od => ?_⟩
        generalize hG : upd H7 d _ = H8
        obtain ⟨k8, e8⟩ := gen_chg hG
        refine ⟨d, od, _, rfl, e8, ?_⟩
        have dd8 := k8 _ _ w.deep hddd.symm
        refine lb_walk walk_keys (fun L j H9 => H8 L = none ∧ Kp H8 H9 ∧ ∃ l : List Str, H9 L = some (.lst (l.map V.str)) ∧ l = ((("" : Str) :: zs.take i).take j).filter fun n => decide ((e n : Int) < tall)) ?_ ?_ ?_ ?_
        · intro L hL
          exact ⟨hL, (show Kp H8 H8 from fun _ _ h => h).new hL, [], upd_same, rfl⟩
        · rintro L j H9 _ ⟨_, k9, _⟩
          exact k9 _ _ e8
        · rintro L j x H9 H10 hj ⟨hL, k9, l, e9, hl9⟩ ⟨rfl, key, v, hkv, rfl⟩
          obtain ⟨n, hn, hkey⟩ : ∃ n, (("" : Str) :: zs.take i)[j]? = some n ∧ key = Sum.inr n := by
            simp only [kvs, List.getElem?_map] at hkv
            cases h : (("" : Str) :: zs.take i)[j]? with
            | none => rw [h] at hkv; cases hkv
            | some n => rw [h] at hkv; cases hkv; exact ⟨n, rfl, rfl⟩
          subst hkey
          have hnm2 : n ∈ ("" : Str) :: zs.take i := List.mem_of_getElem? hn
          show gName 10 (.str n) _ _ _
          walk_at "rd"
          have gdd : DGet H10 dd (.str n) (some (.int (e n))) := by
            have h := DGet.k (k := (Sum.inr n : Key)) (k9 _ _ dd8)
            rw [valV_kvs, if_pos hnm2] at h
            exact h
          refine ⟨dd, _, rfl, gdd, ?_⟩
          walk_at "rd"
          have hstep : ((("" : Str) :: zs.take i).take (j + 1)).filter (fun n => decide ((e n : Int) < tall)) = ((("" : Str) :: zs.take i).take j).filter (fun n => decide ((e n : Int) < tall)) ++ (if (e n : Int) < tall then [n] else []) := by
            rw [List.take_add_one, hn, List.filter_append]
            congr 1
            by_cases q : (e n : Int) < tall
            · simp [q]
            · simp [q]
          refine ite2 (fun q => ?_) fun q => ?_
          · have q : (e n : Int) < tall := of_decide_eq_true q
            rw [if_pos q] at hstep
            refine ⟨_, e9, ?_, hL, ?_, l ++ [n], by rw [upd_same]; simp, by rw [hl9, hstep]⟩
            · rw [List.length_map, hl9]
              refine Nat.lt_of_le_of_lt (List.length_filter_le _ _) ?_
              rw [List.length_take]; simp only [List.length_cons, htl]; omega
            · intro b o eb
              rw [upd_ne (ne_of_none eb hL)]; exact k9 b o eb
          · have q : ¬ (e n : Int) < tall := fun z => q (decide_eq_true z)
            rw [if_neg q, List.append_nil] at hstep
            exact ⟨hL, k9, l, e9, by rw [hl9, hstep]⟩
        · rintro L H9 hL8 ⟨hL, k9, l, e9, hl9⟩
          walk_at "rd"
          refine ⟨k9 _ _ e8, ?_⟩
          generalize hG2 : upd H9 d _ = H10
          obtain ⟨k10, e10⟩ := gen_chg hG2
          have hLd : d ≠ L := ne_of_none e8 hL8
          have k710 : ∀ b o, H7 b = some o → H10 b = some o := fun b o eb => by
            by_cases q : b = d
            · subst q
              rw [e10, ← eb]; exact w.w.kids.dict.symm ▸ rfl
            · exact k10 _ _ (k9 _ _ (k8 _ _ eb q)) q
          have dk10 : Dk a H H10 := ⟨fun b o eb nb => k710 _ _ (k7.keep _ _ eb nb), by obtain ⟨u1, u2, u3, u4⟩ := k7.deck; exact ⟨u1, u2, u3, k710 _ _ u4⟩⟩
          have w10 : Tall K H10 d dd tall (zs.take i) g at_ f e := ⟨⟨w.w.kids.kp k710, w.w.top, w.w.rep, w.w.perm, w.w.named⟩, k710 _ _ w.deep, w.dep, w.e0, w.le⟩
          have l10 := k10 _ _ e9 hLd.symm
          have hLa : L ≠ a := fun z => by
            obtain ⟨u1, u2, u3, u4⟩ := k7.deck
            rw [z, k8 _ _ u4 hda.symm] at hL8; cases hL8
          rw [kvs_len, List.take_length] at hl9
          have hpos : 0 < l.length := by
            have : ("" : Str) ∈ l := by
              rw [hl9, List.mem_filter]
              exact ⟨List.mem_cons_self .., decide_eq_true (by rw [w.e0]; omega)⟩
            exact List.length_pos_of_mem this
          have hlle : l.length ≤ 301 := by
            rw [hl9]
            refine Nat.le_trans (List.length_filter_le _ _) ?_
            simp only [List.length_cons, htl]; omega
          refine ⟨L, _, rfl, .inl (SqL.of l10), ?_⟩
          simp only [List.length_map]
          refine o_draw dk10.deck (by omega) (by omega) fun c H11 c0 c1 k11 => ?_
          obtain ⟨ov, hov2⟩ : ∃ ov, l[c.toNat]? = some ov := ⟨_, List.getElem?_eq_getElem (by omega)⟩
          refine o_ixL (k11.keep _ _ l10 hLa) (v := .str ov) (at_of (j := c.toNat) (by omega) (by rw [List.getElem?_map, hov2]; rfl)) ?_
          have hm := List.mem_of_getElem? hov2
          rw [hl9, List.mem_filter] at hm
          obtain ⟨hm1, hm2⟩ := hm
          refine ⟨dk10.trans k11, ov, _, _, _, ⟨w10.w.deck k11 dk10.deck, k11.keep _ _ w10.deep hdda, w.dep, w.e0, w.le⟩, hm1, of_decide_eq_true hm2, fun q => ?_, rfl⟩
          omega
      · have hlt : ¬ tall ≤ 0 + (i : Int) := fun z => hlt (decide_eq_true z)
        have := hov (by omega)
        exact ⟨k7, over, _, _, _, w, ho, by omega, fun _ => this, rfl⟩
    · rintro σ' H8 ⟨k8, over, y8, y9, y10, w8, ho8, he8, hi8, rfl⟩
      refine tall_r1 k8.deck hda hdda w8 hnew ho8 he8 (by omega) fun H9 g' at' f' e' y9 k9 d9 hat9 w9 hex => ?_
      refine ⟨⟨fun b o eb nb => k9 _ _ (k8.keep _ _ eb nb) nb (ne_of_none eb hdn) (ne_of_none eb hdd0) (fun z => ?_), d9⟩, g', at', f', e', z, _, _, _, _, _, ?_, ?_, ?_, ?_, rfl⟩
      · rw [z, hat over ho8] at eb; cases eb
      · rw [List.take_add_one, hzz]; exact w9
      · intro n hn
        rw [List.take_add_one, hzz] at hn
        rcases hat9 n hn with ⟨y, q⟩ | q
        · rw [q]; exact hat n y
        · cases u : H (at' n) with
          | none => rfl
          | some o =>
            by_cases ua : at' n = a
            · obtain ⟨u1, u2, u3, u4⟩ := k8.deck
              rw [ua, u4] at q; cases q
            · rw [k8.keep _ _ u ua] at q; cases q
      · rw [List.take_add_one, hzz]
        exact List.mem_cons_of_mem _ (List.mem_append_right _ (List.mem_singleton.mpr rfl))
      · intro q
        rw [hex, hi8 (by omega)]
  · rintro σ H7 ⟨k7, g, at_, f, e, over, y6, y7, y8, y9, y10, w, hat, ho, hov, rfl⟩
    rw [List.take_length] at w
    walk_at "rd"
    have hpl := w.w.perm.length_eq
    have hdp := w.dep.dp (t := tall.toNat) (fun n hn => by have := w.le n (List.mem_cons_of_mem _ (w.w.perm.mem_iff.mp hn)); omega) (Nat.zero_le _)
    refine ⟨d, ("" : Str), _, g, at_, f, rfl, w.w.kids, List.mem_cons_self .., w.w.top, w.w.rep, fun x hx => List.mem_cons_of_mem _ (w.w.perm.mem_iff.mp hx), by show f.dp ≤ 120; omega, by omega, fun p H8 k8 hw => ?_⟩
    obtain ⟨u1, u2, u3, u4⟩ := k7.deck
    refine q p H8 f ⟨fun b o e nb => k8 _ _ (k7.keep _ _ e nb), u1, u2, u3, k8 _ _ u4⟩ hw w.w.perm (by omega) fun hlt => ?_
    have h1 : e over = zs.length := hov hlt
    rw [List.take_length] at ho
    rcases List.mem_cons.mp ho with h2 | h2
    · rw [h2, w.e0] at h1; omega
    · have := w.dep.le over (w.w.perm.mem_iff.mpr h2); omega
end
end Tw
set_option Elab.async false
set_option linter.all false
set_option maxRecDepth 100000
set_option maxHeartbeats 4000000
namespace Tw
open PySem PySem.Spec PyProof.Rows L2 TL
local macro_rules | `(tactic| walk_at "rd") => `(tactic| try simp only [o_op, o_un, o_var, o_c, o_cb, o_call, o_cons, o_nil, o_tup, o_lst, o_I0, o_I, o_int1, o_intb, o_abs, o_test, o_b, o_not, o_and, o_or, o_andV, o_orV, o_notV, o_ifE, o_isN, o_notN, o_eq, o_ne, o_seq, o_next, o_asg, o_name, o_sub, o_par, o_par3, o_drop, o_ret, o_retN, o_ifS, o_sl, o_noPart, o_part, o_bm, o_bm0, o_m0, o_m1, o_dget, o_dput, o_din, o_dnotin, o_listKeys, e_bl, e_int, e_str, e_some, e_two, e_three, o_for, o_lc, o_iList, o_iTup, o_iRng1, e_int1, e_ref, o_yes, o_wipe0, o_wipe1, o_disp, o_dnew, o_pairs0, o_pairs1, o_lock, o_keysM, o_gtup, o_gcons, o_gnil, true_and, if_pos, List.getElem?_cons_zero, List.getElem?_cons_succ, List.set_cons_zero, List.set_cons_succ, List.append_nil])
/-- a wood as the laws draw it -/
structure Good (f : Fo) : Prop where
  nd : f.nm.Nodup
  nms : ∀ z ∈ f.nm, IsName z
  sz : f.nm.length ≤ 120
  dp : f.dp ≤ 40
def sp_l_wood_and_names (K : PySem.W.Frag) : Sp := fun vs H Q _ => ∃ (a : Addr) (more : Int), vs = [.ref a, .int more] ∧ DeckAt H a ∧ 0 ≤ more ∧ more ≤ 100 ∧
  ∀ (p wp np : Addr) (f : Fo) (rest : List Str) (H' : Hp), Dk a H H' → H' p = some (.lst [.ref wp, .ref np]) → WoodAt K H' wp f → H' np = some (.lst (rest.map V.str)) → Good f → (f.nm ++ rest).Nodup → (∀ z ∈ rest, IsName z) → (rest.length : Int) = more → Q (.ref p) H'
def sp_l_some_wood (K : PySem.W.Frag) : Sp := fun vs H Q _ => ∃ (a : Addr), vs = [.ref a] ∧ DeckAt H a ∧ ∀ (wp : Addr) (f : Fo) (H' : Hp), Dk a H H' → WoodAt K H' wp f → Good f → Q (.ref wp) H'
/-- the promise of row, by the depth of the wood -/
def spR (K : PySem.W.Frag) : Nat → Sp
  | 0 => fun _ _ _ _ => False
  | m + 1 => fun vs H Q _ => ∃ (a : Addr) (f : Fo), vs = [.ref a] ∧ WoodAt K H a f ∧ f.dp ≤ m ∧ f.nm.length ≤ 1000 ∧ (∀ z ∈ f.nm, z.length ≤ 100) ∧ ∀ (p : Addr) (H' : Hp), Kp H H' → SqT K H' p (f.row.map V.str) → Q (.ref p) H'
def t_l_wood_and_names (K : PySem.W.Frag) : TS :=
  (tSeq (tIfS (tTest (tOp rEq (tCall sp_l_draw [] E0 (tCons (tVar 0) (tCons (tC (.int 8)) tNil))) (tC (.int 3)))) (tSeq (tAsg (tOp (rI0 fun i j => .int (i + j)) (tC (.int 1)) (tCall sp_l_draw [] E0 (tCons (tVar 0) (tCons (tC (.int 40)) tNil)))) (gName 2))
  (tSeq (tAsg (tOp (rI0 fun i j => .int (i + j)) (tVar 2) (tCall sp_l_draw [] E0 (tCons (tVar 0) (tCons (tOp (rI0 fun i j => .int (i - j)) (tC (.int 121)) (tVar 2)) tNil)))) (gName 3))
  (tSeq (tAsg (tCall sp_l_names [] E0 (tCons (tVar 0) (tCons (tOp (rI0 fun i j => .int (i + j)) (tVar 3) (tVar 1)) tNil))) (gName 4))
  (tRet (tLst (tCons (tCall (sp_l_tall_wood K) [] E0 (tCons (tVar 0) (tCons (L2.tSl (rSlL K) (tVar 4) tNoPart (tPart (tVar 3))) (tCons (tVar 2) tNil)))) (tCons (L2.tSl (rSlL K) (tVar 4) (tPart (tVar 3)) tNoPart) tNil))))))) tNext)
  (tSeq (tAsg (tCall sp_l_draw [] E0 (tCons (tVar 0) (tCons (tC (.int 13)) tNil))) (gName 3))
  (tSeq (tAsg (tCall sp_l_names [] E0 (tCons (tVar 0) (tCons (tOp (rI0 fun i j => .int (i + j)) (tVar 3) (tVar 1)) tNil))) (gName 4))
  (tRet (tLst (tCons (tCall (sp_l_wood K) [] E0 (tCons (tVar 0) (tCons (L2.tSl (rSlL K) (tVar 4) tNoPart (tPart (tVar 3))) tNil))) (tCons (L2.tSl (rSlL K) (tVar 4) (tPart (tVar 3)) tNoPart) tNil)))))))
def t_l_some_wood (K : PySem.W.Frag) : TS :=
  (tRet (tOp (rIxL K) (tCall (sp_l_wood_and_names K) [] E0 (tCons (tVar 0) (tCons (tC (.int 0)) tNil))) (tC (.int 0))))
def t_l_row_b1 (K : PySem.W.Frag) (rec : Sp) : TS :=
  (tAsg (tOp (rCatA K) (tOp (rCatA K) (tOp (rCatA K) (tVar 1) (tTup (tCons (tOp rAddStr (tC (.str "+")) (tVar 2)) tNil))) (tCall rec [] E0 (tCons (tVar 3) tNil))) (tTup (tCons (tOp rAddStr (tC (.str "-")) (tVar 2)) tNil))) (gName 1))
def t_l_row (K : PySem.W.Frag) (rec : Sp) : TS :=
  (tSeq (tAsg (tTup tNil) (gName 1))
  (tSeq (tFor (iTup K (tVar 0)) (gTup K 2 (gCons (gName 2) (gCons (gName 3) gNil)))
  (t_l_row_b1 K rec))
  (tRet (tVar 1))))
section
variable {K : PySem.W.Frag}
theorem len_l_wood_and_names (vs : List V) (H : Hp) (Q : VK) (E : XK) (h : sp_l_wood_and_names K vs H Q E) : vs.length = 2 := by
  obtain ⟨_, _, rfl, _⟩ := h
  rfl
theorem len_l_some_wood (vs : List V) (H : Hp) (Q : VK) (E : XK) (h : sp_l_some_wood K vs H Q E) : vs.length = 1 := by
  obtain ⟨_, rfl, _⟩ := h
  rfl
theorem len_spR {m : Nat} (vs : List V) (H : Hp) (Q : VK) (E : XK) (h : spR K m vs H Q E) : vs.length = 1 := by
  cases m with
  | zero => exact False.elim h
  | succ m =>
    obtain ⟨_, _, rfl, _⟩ := h
    rfl
theorem pure_l_some_wood (vs : List V) (H : Hp) (Q : VK) (E : XK) (h : sp_l_some_wood K vs H Q E) : t_l_some_wood K { nx := fun _ H' => Q .non H', rt := Q } (startN 1 vs) H := by
  obtain ⟨a, rfl, hd, q⟩ := h
  show t_l_some_wood K _ [some (.ref a)] H
  unfold t_l_some_wood
  walk_at "rd"
  refine ⟨a, 0, rfl, hd, by decide, by decide, fun p wp np f rest H1 k1 hp hw _ hg _ _ _ => ?_⟩
  exact o_ixL hp rfl (q wp f H1 k1 hw hg)
theorem cut_lo (l : List Str) {k : Int} (h0 : 0 ≤ k) (h1 : k ≤ l.length) : cutV (l.map V.str) none (some k) = (l.take k.toNat).map V.str := by
  rw [cutV_str, show (some k) = some ((k.toNat : Nat) : Int) from by rw [Int.toNat_of_nonneg h0], HT.sIx_none, HT.sIx_nat, Nat.min_eq_left (by omega)]; simp
theorem cut_hi (l : List Str) {k : Int} (h0 : 0 ≤ k) (h1 : k ≤ l.length) : cutV (l.map V.str) (some k) none = (l.drop k.toNat).map V.str := by
  rw [cutV_str, show (some k) = some ((k.toNat : Nat) : Int) from by rw [Int.toNat_of_nonneg h0], HT.sIx_none, HT.sIx_nat, Nat.min_eq_left (by omega)]
  congr 1
  rw [List.take_of_length_le]; simp
theorem o_names {a : Addr} {n : Int} {H : Hp} {Q : VK} {E : XK} (hd : DeckAt H a) (h0 : 0 ≤ n) (h1 : n ≤ 300) (q : ∀ (p : Addr) (zs : List Str) (H' : Hp), H p = none → Dk a H H' → H' p = some (.lst (zs.map V.str)) → (zs.length : Int) = n → zs.Nodup → (∀ z ∈ zs, IsName z) → Q (.ref p) H') : sp_l_names [.ref a, .int n] H Q E := ⟨a, n, rfl, hd, h0, h1, q⟩
theorem split_nd {α : Type} {zs l : List α} {k : Nat} (h : zs.Nodup) (p : l.Perm (zs.take k)) : (l ++ zs.drop k).Nodup :=
  ((p.append_right _).trans (by rw [List.take_append_drop])).nodup_iff.mpr h
theorem pure_l_wood_and_names (vs : List V) (H : Hp) (Q : VK) (E : XK) (h : sp_l_wood_and_names K vs H Q E) : t_l_wood_and_names K { nx := fun _ H' => Q .non H', rt := Q } (startN 5 vs) H := by
  obtain ⟨a, more, rfl, hd, hm0, hm1, q⟩ := h
  show t_l_wood_and_names K _ [some (.ref a), some (.int more), none, none, none] H
  unfold t_l_wood_and_names
  walk_at "rd"
  refine o_draw hd (by decide) (by decide) fun c H1 _ _ k1 => ?_
  refine ⟨rfl, ite2 (fun _ => ?_) fun _ => ?_⟩
  · refine o_draw k1.deck (by decide) (by decide) fun t H2 t0 t1 k2 => ?_
    walk_at "rd"
    refine o_draw k2.deck (by omega) (by omega) fun m H3 m0 m1 k3 => ?_
    walk_at "rd"
    refine o_names k3.deck (by omega) (by omega) fun ns zs H4 hns k4 hz hzl nd hnm => ?_
    have k04 := ((k1.trans k2).trans k3).trans k4
    refine ⟨ns, _, rfl, SqL.of hz, fun p1 hp1 => ?_⟩
    generalize hG : upd H4 p1 _ = H5
    obtain ⟨k5, e5⟩ := gen_new hp1 hG
    clear hG
    rw [cut_lo zs (by omega) (by omega)] at e5
    have hp1a : p1 ≠ a := deck_ne k4.deck hp1
    have hnsa : ns ≠ a := deck_ne k3.deck hns
    obtain ⟨x0, y0, z0, da⟩ := k4.deck
    refine ⟨a, p1, _, 1 + t, rfl, ⟨x0, y0, z0, k5 _ _ da⟩, SqL.of e5, hp1a, nd.sublist (List.take_sublist ..), fun z hz => hnm z (List.mem_of_mem_take hz), by rw [List.length_take]; omega, by omega, by omega, fun wp H6 f k6 hw hpm hdp _ => ?_⟩
    refine ⟨ns, _, rfl, SqL.of (k6.keep _ _ (k5 _ _ hz) hnsa), fun p2 hp2 => ?_⟩
    generalize hG : upd H6 p2 _ = H7
    obtain ⟨k7, e7⟩ := gen_new hp2 hG
    clear hG
    rw [cut_hi zs (by omega) (by omega)] at e7
    walk_at "rd"
    refine ⟨by show 2 ≤ sizeLine; decide, fun p hp => ?_⟩
    generalize hG : upd H7 p _ = H8
    obtain ⟨k8, e8⟩ := gen_new hp hG
    clear hG
    obtain ⟨x6, y6, z6, da6⟩ := k6.deck
    have hlen := hpm.length_eq
    rw [List.length_take] at hlen
    refine q p wp p2 f (zs.drop (1 + t + m).toNat) H8 ⟨fun b o e nb => k8 _ _ (k7 _ _ (k6.keep _ _ (k5 _ _ (k04.keep _ _ e nb)) nb)), x6, y6, z6, k8 _ _ (k7 _ _ da6)⟩ e8 (hw.mono (Tk.kp fun b o e => k8 _ _ (k7 _ _ e))) (k8 _ _ e7) ⟨hpm.nodup_iff.mpr (nd.sublist (List.take_sublist ..)), fun z hz => hnm z (List.mem_of_mem_take (hpm.mem_iff.mp hz)), by omega, by omega⟩ (split_nd nd hpm) (fun z hz => hnm z (List.mem_of_mem_drop hz)) ?_
    rw [List.length_drop]; omega
  · refine o_draw k1.deck (by decide) (by decide) fun m H3 m0 m1 k3 => ?_
    walk_at "rd"
    refine o_names k3.deck (by omega) (by omega) fun ns zs H4 hns k4 hz hzl nd hnm => ?_
    have k04 := (k1.trans k3).trans k4
    refine ⟨ns, _, rfl, SqL.of hz, fun p1 hp1 => ?_⟩
    generalize hG : upd H4 p1 _ = H5
    obtain ⟨k5, e5⟩ := gen_new hp1 hG
    clear hG
    rw [cut_lo zs (by omega) (by omega)] at e5
    have hp1a : p1 ≠ a := deck_ne k4.deck hp1
    have hnsa : ns ≠ a := deck_ne k3.deck hns
    obtain ⟨x0, y0, z0, da⟩ := k4.deck
    refine ⟨a, p1, _, rfl, ⟨x0, y0, z0, k5 _ _ da⟩, SqL.of e5, hp1a, nd.sublist (List.take_sublist ..), fun z hz => hnm z (List.mem_of_mem_take hz), by rw [List.length_take]; omega, fun wp H6 f k6 hw hpm => ?_⟩
    refine ⟨ns, _, rfl, SqL.of (k6.keep _ _ (k5 _ _ hz) hnsa), fun p2 hp2 => ?_⟩
    generalize hG : upd H6 p2 _ = H7
    obtain ⟨k7, e7⟩ := gen_new hp2 hG
    clear hG
    rw [cut_hi zs (by omega) (by omega)] at e7
    walk_at "rd"
    refine ⟨by show 2 ≤ sizeLine; decide, fun p hp => ?_⟩
    generalize hG : upd H7 p _ = H8
    obtain ⟨k8, e8⟩ := gen_new hp hG
    clear hG
    obtain ⟨x6, y6, z6, da6⟩ := k6.deck
    have hlen := hpm.length_eq
    rw [List.length_take] at hlen
    refine q p wp p2 f (zs.drop m.toNat) H8 ⟨fun b o e nb => k8 _ _ (k7 _ _ (k6.keep _ _ (k5 _ _ (k04.keep _ _ e nb)) nb)), x6, y6, z6, k8 _ _ (k7 _ _ da6)⟩ e8 (hw.mono (Tk.kp fun b o e => k8 _ _ (k7 _ _ e))) (k8 _ _ e7) ⟨hpm.nodup_iff.mpr (nd.sublist (List.take_sublist ..)), fun z hz => hnm z (List.mem_of_mem_take (hpm.mem_iff.mp hz)), by omega, by have := Fo.dp_le f; omega⟩ (split_nd nd hpm) (fun z hz => hnm z (List.mem_of_mem_drop hz)) ?_
    rw [List.length_drop]; omega
/-! ### the law's row -/
theorem o_cat {a b : Addr} {xs ys : List V} {H : Hp} {Q : VK} (h1 : SqT K H a xs) (h2 : SqT K H b ys) (hl : xs.length + ys.length ≤ sizeLine) (q : ∀ (p : Addr) (H' : Hp), Kp H H' → SqT K H' p (xs ++ ys) → Q (.ref p) H') : rCatA K (.ref a) (.ref b) H Q := by
  refine ⟨a, b, xs, ys, rfl, rfl, h1, h2, hl, fun e => ?_, fun _ e => ?_, fun _ _ p hp => ?_⟩
  · exact q b H (fun _ _ h => h) (by rw [e]; exact h2)
  · exact q a H (fun _ _ h => h) (by rw [e, List.append_nil]; exact h1)
  · exact q p _ (Kp.new (fun _ _ h => h) hp) (SqT.of upd_same)
theorem Rp.at {H : Hp} : ∀ {i : Nat} {vs : List V} {f : Fo} {x : V}, Rp K H vs f → vs[i]? = some x → ∃ (t k : Addr) (n : Str) (kvs : List V) (ks r : Fo), x = .ref t ∧ f.fdrop i = .cons n ks r ∧ SqT K H t [.str n, .ref k] ∧ SqT K H k kvs ∧ Rp K H kvs ks
  | _, _, _, _, .nil, h => by simp at h
  | 0, _, _, x, .cons (t := t) (k := k) (n := n) (kvs := kvs) (ks := ks) (r := r) a b c _, h => by
    have e : V.ref t = x := by simpa using h
    exact ⟨t, k, n, kvs, ks, r, e.symm, rfl, a, b, c⟩
  | i + 1, _, _, x, .cons _ _ _ d, h => Rp.at (i := i) d (by simpa using h)
theorem row_take {n : Str} {ks r : Fo} : ∀ {i : Nat} {f : Fo}, f.fdrop i = .cons n ks r → (f.ftake (i + 1)).row = (f.ftake i).row ++ [Fo.plus n] ++ ks.row ++ [Fo.minus n]
  | 0, f, e => by
    have e2 : f = .cons n ks r := e
    subst e2
    simp [Fo.ftake, Fo.row]
  | i + 1, .nil, e => by cases e
  | i + 1, .cons m ks' r', e => by
    have h := row_take (i := i) (f := r') e
    simp only [Fo.ftake, Fo.row] at h ⊢
    rw [h]; simp
theorem row_len : ∀ f : Fo, f.row.length = 2 * f.nm.length
  | .nil => rfl
  | .cons n ks r => by simp only [Fo.row, Fo.nm, List.length_cons, List.length_append, row_len ks, row_len r]; omega
theorem nm_take_le {i : Nat} {f : Fo} : (f.ftake i).nm.length ≤ f.nm.length := by
  have := Fo.nm_split i f
  rw [this, List.length_append]; omega
theorem pure_l_row {m : Nat} (vs : List V) (H : Hp) (Q : VK) (E : XK) (h : spR K (m + 1) vs H Q E) : t_l_row K (spR K m) { nx := fun _ H' => Q .non H', rt := Q } (startN 4 vs) H := by
  obtain ⟨a, f, rfl, hw, hdp, hsz, hnm, q⟩ := h
  show t_l_row K _ _ [some (.ref a), none, none, none] H
  unfold t_l_row
  have hz := sizeLine_eq
  walk_at "rd"
  refine ⟨Nat.zero_le _, fun p0 hp0 => ?_⟩
  generalize hG : upd H p0 _ = H1
  obtain ⟨k1, e1⟩ := gen_new hp0 hG
  clear hG
  walk_at "rd"
  obtain ⟨ws, hws, rp⟩ := hw
  refine ⟨⟨_, Tk.kp k1 _ _ hws⟩, ?_⟩
  refine fb_tup (xs := ws) (fun i σ H2 => Kp H H2 ∧ ∃ p x y, SqT K H2 p ((f.ftake i).row.map V.str) ∧ σ = [some (.ref a), some (.ref p), x, y]) ?_ ?_ ?_ ?_
  · exact ⟨k1, p0, _, _, SqT.of e1, rfl⟩
  · rintro i σ H2 _ ⟨k2, _⟩
    exact Tk.kp k2 _ _ hws
  · rintro i x σ H2 hx ⟨k2, p, y1, y2, hp, rfl⟩
    obtain ⟨t, k, n, kvs, ks, r, rfl, hf, ht, hk, hr⟩ := rp.at hx
    have hg : f.Rep (fun _ => []) ∨ True := .inr trivial
    walk_at "rd"
    refine ⟨t, _, rfl, Tk.kp k2 _ _ ht, rfl, _, _, rfl, _, _, rfl, rfl, ?_⟩
    have hin := drop_in hf
    have hn100 := hnm n hin.1
    have hlen1 : ((f.ftake i).row.map V.str).length ≤ 2000 := by
      rw [List.length_map, row_len]; have := nm_take_le (i := i) (f := f); omega
    have hlen2 : (ks.row.map V.str).length ≤ 2000 := by
      rw [List.length_map, row_len]; have := hin.2.2.2; omega
    unfold t_l_row_b1
    walk_at "rd"
    have l1 : (("+" : Str)).length = 1 := by decide +kernel
    have l2 : (("-" : Str)).length = 1 := by decide +kernel
    refine ⟨_, _, rfl, rfl, by omega, by show 1 ≤ sizeLine; omega, fun p1 hp1 => ?_⟩
    generalize hG : upd H2 p1 _ = H3
    obtain ⟨k3, e3⟩ := gen_new hp1 hG
    clear hG
    refine o_cat (Tk.kp k3 _ _ hp) (SqT.of e3) (by simp only [List.length_cons, List.length_nil]; omega) fun p2 H4 k4 h4 => ?_
    cases m with
    | zero => have := hin.2.1; omega
    | succ m =>
      have k24 : Kp H2 H4 := fun b o e => k4 _ _ (k3 _ _ e)
      have k04 : Kp H H4 := fun b o e => k24 _ _ (k2 _ _ e)
      refine ⟨k, ks, rfl, ⟨kvs, Tk.kp k04 _ _ hk, hr.mono (Tk.kp k04)⟩, by have := hin.2.1; omega, by have := hin.2.2.2; omega, fun z hz => hnm z (hin.2.2.1 z hz), fun p5 H5 k5 h5 => ?_⟩
      refine o_cat (Tk.kp k5 _ _ h4) h5 (by simp only [List.length_cons, List.length_nil, List.length_append]; omega) fun p6 H6 k6 h6 => ?_
      refine ⟨_, _, rfl, rfl, by omega, by show 1 ≤ sizeLine; omega, fun p7 hp7 => ?_⟩
      generalize hG : upd H6 p7 _ = H7
      obtain ⟨k7, e7⟩ := gen_new hp7 hG
      clear hG
      refine o_cat (Tk.kp k7 _ _ h6) (SqT.of e7) (by simp only [List.length_cons, List.length_nil, List.length_append]; omega) fun p8 H8 k8 h8 => ?_
      refine ⟨fun b o e => k8 _ _ (k7 _ _ (k6 _ _ (k5 _ _ (k04 _ _ e)))), p8, _, _, ?_, rfl⟩
      rw [row_take hf]
      simpa [Fo.plus, Fo.minus] using h8
  · rintro σ H2 ⟨k2, p, y1, y2, hp, rfl⟩
    walk_at "rd"
    rw [rp.len, ftake_all] at hp
    exact q p H2 k2 hp
where
  drop_in {n : Str} {ks r : Fo} : ∀ {i : Nat} {f : Fo}, f.fdrop i = .cons n ks r → n ∈ f.nm ∧ ks.dp + 1 ≤ f.dp ∧ (∀ z ∈ ks.nm, z ∈ f.nm) ∧ ks.nm.length ≤ f.nm.length
    | 0, f, e => by
      have e2 : f = .cons n ks r := e
      subst e2
      exact ⟨List.mem_cons_self .., by simp only [Fo.dp]; omega, fun x hx => List.mem_cons_of_mem _ (List.mem_append_left _ hx), by simp only [Fo.nm, List.length_cons, List.length_append]; omega⟩
    | i + 1, .nil, e => by cases e
    | i + 1, .cons m ks' r', e => by
      obtain ⟨h1, h2, h3, h4⟩ := drop_in (i := i) (f := r') e
      exact ⟨List.mem_cons_of_mem _ (List.mem_append_right _ h1), by simp only [Fo.dp]; omega, fun x hx => List.mem_cons_of_mem _ (List.mem_append_right _ (h3 x hx)), by simp only [Fo.nm, List.length_cons, List.length_append]; omega⟩
end
end Tw
set_option Elab.async false
set_option linter.all false
set_option maxRecDepth 100000
set_option maxHeartbeats 4000000
namespace PySem.AutoSeq1
open Sem (wp)
open Builtin
set_option maxRecDepth 8000 in
theorem tw_extend_tup (l : Addr) (items : Array Value) (n : Nat) (b : Addr) (items2 : Array Value) (n2 : Nat) (dd : Option Addr) (sl : Array (Option Value)) (hs0 : ¬(!items.isEmpty && Builtin.List.listTooLong (items.size + items2.size)) = true) (hs1 : items.size ≤ sizeLine) (hs2 : items.size + items2.size ≤ sizeLine + 1) :
    Meets (Builtin.«list.extend» ⟨[.ref l, .ref b], []⟩) (fun _ R s => s.heap.get? l = some { cls := .type "list", dict := none, data := .seq items n, slots := #[] } ∧ s.heap.get? b = some { cls := .type "tuple", dict := dd, data := .seq items2 n2, slots := sl } ∧ R (.ok (.ret Value.none)) { s with heap := s.heap.update l (Obj.mapSeq fun x => x ++ items2), toks := s.toks }) :=
  .of_wp fun prog w A R s h => by
    obtain ⟨hp, g, d, tk, os⟩ := s; obtain ⟨hl, hb, h⟩ := h; have f1 := idx_int; have f2 := sub_tuple_tuple; have f3 := sub_list_list; have f4 := sub_tuple_list; have f5 := sub_list_tuple;
    have hz' : (items ++ items2).size ≤ sizeLine + 1 := by rw [Array.size_append]; exact hs2
    wp_walk using (wpAny_updateSeq hl rfl (hz := hs1) (_hz' := hz')), wpAny_loadPart' hl, wpAny_loadPart' hb; exact ⟨_, rfl, h⟩
end PySem.AutoSeq1
namespace Tw
open PySem PySem.Spec PyProof.Rows HT L2
/-- xs.extend(t), t a tuple -/
def rExtendT (K : PySem.W.Frag) : V → List V → Hp → VK → Prop := fun x vs H Q => ∃ l b xs zs, x = .ref l ∧ vs = [.ref b] ∧ H l = some (.lst xs) ∧ SqT K H b zs ∧ xs.length + zs.length ≤ sizeLine ∧ Q .non (upd H l (.lst (xs ++ zs)))
section
variable {X : Cx}
theorem mt_extendT : MtM X "list.extend" (rExtendT X.K) := by
  intro pins s σ H x vs v us Q I rx rv h
  obtain ⟨l, b, xs, zs, rfl, rfl, hH, hB, hz, q⟩ := h
  cases rx
  obtain ⟨u, rfl, ru⟩ := rv.one
  cases ru
  obtain ⟨z, its, n, r, hl, e⟩ := I.lstM hH
  obtain ⟨its2, r2, ht2, hl2⟩ := I.tuple hB
  obtain ⟨⟨cls2, dd2, data2, sl2⟩, e2, hc2, n2, hd2⟩ := id ht2
  simp only at hc2 hd2
  subst hc2 hd2
  have hll := r.length
  have hll2 := r2.length
  have hsz : its.toArray.size + its2.toArray.size ≤ sizeLine := by rw [List.size_toArray, List.size_toArray]; omega
  have hlong : ¬ (!its.toArray.isEmpty && Builtin.List.listTooLong (its.toArray.size + its2.toArray.size)) = true := by
    rw [notLongL hsz, Bool.and_false]
    exact Bool.false_ne_true
  refine call_meets F.slot_list_extend ⟨_, e, rfl⟩ F.entry_list_extend (F.args_list_extend_2 _ _)
    (AutoSeq1.tw_extend_tup l its.toArray n b its2.toArray n2 dd2 sl2 hlong (by rw [List.size_toArray]; omega) (by omega)) ⟨e, e2, ?_⟩
  refine ⟨.non, _, I.lset (its' := its ++ its2) hH e (by simp) (r.append r2) ?_, rfl, q⟩
  rw [List.length_append]
  omega
end
end Tw
namespace Tw
open PySem PySem.Spec PyProof.Rows L2
section
open Sem (wp)
open AutoSeq1 (wpAny_loadPart')
theorem tw_enum_newT (l : Addr) (items : Array Value) :
    Meets (Builtin.«enumerate.__new__» ⟨[.type "enumerate", .ref l], []⟩) (fun _ R s => s.heap.IsTuple l items ∧
      R (.ok (.ret (.ref (s.heap.push { cls := .type "tuple_iterator", data := .fields #[.ref l, .int 0 0] }).objs.size)))
        { s with heap := (s.heap.push { cls := .type "tuple_iterator", data := .fields #[.ref l, .int 0 0] }).push { cls := .type "enumerate", data := .fields #[.none, .bool false, .ref s.heap.objs.size, rawInt 0, .none, .none] } }) :=
  .of_wp fun prog w A R s h => by
    obtain ⟨hp, g, d, tk, os⟩ := s; obtain ⟨hl, h⟩ := h
    have hsub := sub_enumerate
    have q1 : ∀ {A' : Around} {E : Value → Shared → Prop} {Q : Value → Shared → Prop}, Q (.ref hp.objs.size) ⟨hp.push { cls := .type "tuple_iterator", data := .fields #[.ref l, .int 0 0] }, g, d, tk, os⟩ → wpAny (model prog w) A' (pyIter (.ref l)) Q E ⟨hp, g, d, tk, os⟩ :=
      fun q => wpAny_pyIter_tuple (s := ⟨hp, g, d, tk, os⟩) hl q
    wp_walk using q1
    refine wpAny_stack_any fun st => wpAny_pure ?_
    split
    · rename_i c _ _ _ _ _
      cases (c == Value.type "enumerate")
      · wp_walk using q1
        exact ⟨_, rfl, h⟩
      · wp_walk using q1
        exact ⟨_, rfl, h⟩
    · wp_walk using q1
      exact ⟨_, rfl, h⟩
theorem tw_call_enumT {prog : Program} {w : World} {A : Around} {E : Value → Shared → Prop} {s : Shared} {l : Addr} {items : Array Value} {Q : Value → Shared → Prop} (hL : s.heap.IsTuple l items)
    (h : ∀ h', IsEnum h' (s.heap.objs.size + 1) s.heap.objs.size 0 .none → h'.IsTupleIter s.heap.objs.size l 0 → h'.objs.size = s.heap.objs.size + 2 →
      (∀ b o, s.heap.get? b = some o → h'.get? b = some o) → Q (.ref (s.heap.objs.size + 1)) { s with heap := h' }) :
    wpAny (model prog w) A (call (.type "enumerate") [.ref l]) Q E s := by
  refine callType_new F.called_enumerate (by decide) (F.typeCall_enumerate_1 _) (F.newCall_enumerate_1 _) (fun obj => F.args_object_init_2 obj _) F.entry_enumerate_new
    (tw_enum_newT l items) ⟨hL, ?_⟩
  have hz : (s.heap.push { cls := .type "tuple_iterator", data := .fields #[.ref l, .int 0 0] }).objs.size = s.heap.objs.size + 1 := Heap.size_push ..
  show _ ∧ _
  rw [hz]
  have he : IsEnum ((s.heap.push { cls := .type "tuple_iterator", data := .fields #[.ref l, .int 0 0] }).push
      { cls := .type "enumerate", data := .fields #[.none, .bool false, .ref s.heap.objs.size, rawInt 0, .none, .none] }) (s.heap.objs.size + 1) s.heap.objs.size 0 .none := by
    have := Heap.get?_push_size (s.heap.push { cls := .type "tuple_iterator", data := .fields #[.ref l, .int 0 0] })
      (o := { cls := .type "enumerate", data := .fields #[.none, .bool false, .ref s.heap.objs.size, rawInt 0, .none, .none] }) rfl
    rw [hz] at this; exact this
  refine ⟨⟨_, he, rfl⟩, h _ he ⟨_, Heap.get?_push_of_some _ (Heap.get?_push_size _ rfl), rfl, rfl⟩ (by rw [Heap.size_push, hz]) fun b o x => Heap.get?_push_of_some _ (Heap.get?_push_of_some _ x)⟩
end
/-- enumerate of a tuple: a new pair a turn -/
def IteT (K : PySem.W.Frag) (a : Addr) : It :=
  ⟨fun i H => ∃ (xs : List V) (x : V), SqT K H a xs ∧ xs[i]? = some x, fun i H v H' => ∃ T x, v = .ref T ∧ H T = none ∧ H' = upd H T (.tup [.int (i : Nat), x]) ∧ ∀ xs, SqT K H a xs → xs[i]? = some x, fun i H => ∃ xs : List V, SqT K H a xs ∧ xs.length = i⟩
theorem turn_enumT {P : Program} {w : World} {K : PySem.W.Frag} {elts : List Expr} {kk : Nat} {tpos : Pos} (a e it : Addr) :
    Turn P w K (.Tuple elts kk tpos) (IteT K a) [e, it] e (fun i h => (∃ old, IsEnum h e it ((i : Nat) : Int) old) ∧ h.IsTupleIter it a i ∧ e ≠ it ∧ a ≠ it ∧ a ≠ e) where
  mem := by simp
  obj := fun i h st b hb => by
    obtain ⟨⟨old, he⟩, ⟨o, ho, hc, hd⟩, _⟩ := st
    have e' : b = e ∨ b = it := by simpa using hb
    rcases e' with z | z
    · rw [z]; exact ⟨_, he, fun v q => nomatch q⟩
    · rw [z]; exact ⟨o, ho, fun v q => by rw [hd] at q; cases q⟩
  keep := fun i h h' st k => let ⟨⟨old, he⟩, hi, hne⟩ := st; ⟨⟨old, k e (by simp) _ he⟩, hi.at fun o q => k it (by simp) o q, hne⟩
  item := by
    intro X hP hw hK hc i pins s σ H E I hf st hg
    subst hP hw hK
    obtain ⟨⟨old, he⟩, hit, hne, hat, hae⟩ := st
    obtain ⟨xs, x, hq, hx⟩ := hg
    obtain ⟨its, rv, p, hz⟩ := I.tuple hq
    obtain ⟨u0, hu0, ru0⟩ := rv.get hx
    have hel : e < s.heap.objs.size := Heap.lt_size he
    have hil : it < s.heap.objs.size := by obtain ⟨_, q, _⟩ := hit; exact Heap.lt_size q
    have hlt : i < its.toArray.size := by
      rw [List.size_toArray]
      exact (List.getElem?_eq_some_iff.mp hu0).1
    refine wpAny_pyNext_enum_itemD (Draws.tuple (A := X.A.in1) (I.ok.hd hc) it a hat its.toArray) he ⟨hit, p⟩ hlt hne (by simp [hne, hae.symm]) fun u h' tk hPx ho hit' hT hsz hk => ?_
    have eu : u0 = u := by
      have h1 : its[i]? = some u := by simpa using hPx
      rw [hu0] at h1; exact Option.some.inj h1
    subst eu
    refine ⟨_, rfl, wpAny_letOwnedTupleGo_enum (s := { s with heap := h', toks := tk + 1 }) ho fun h'' he' sb => ?_⟩
    have hT2 : h''.get? s.heap.objs.size = some { cls := .type "tuple", data := .seq #[.int i tk, u0] } := (sb.2 _ (Nat.ne_of_gt hel)).trans hT
    have new : ObjOk X.prog X.w (upd H s.heap.objs.size (.tup [.int (i : Nat), x])) h'' s.heap.objs.size (.tup [.int (i : Nat), x]) :=
      ⟨by show 2 ≤ sizeLine; decide, [.int i tk, u0], .cons ⟨_, rfl⟩ (.cons ru0 .nil), ⟨_, hT2, rfl, _, rfl⟩⟩
    have I1 : Inv X pins σ (upd H s.heap.objs.size (.tup [.int (i : Nat), x])) { s with heap := h'', toks := tk + 1 } :=
      I.turnedNew (ch := [e, it]) (fun b ob hb q => (sb.2 b (fun z => hb (by simp [z]))).trans (hk b ob (fun z => hb (by simp [z])) (fun z => hb (by simp [z])) q)) hf (Nat.le_refl _) new
    refine ⟨.ref s.heap.objs.size, _, I1, rfl, ⟨_, x, rfl, I.hok.fresh (Nat.le_refl _), rfl, fun ys hy => by rw [I.tuple_inj hy hq]; exact hx⟩, ⟨⟨u0, ?_⟩, hit'.1.at fun o q => (sb.2 it (Ne.symm hne)).trans q, hne, hat, hae⟩, fun b hb => ?_⟩
    · have e1 : ((i + 1 : Nat) : Int) = (i : Int) + 1 := by omega
      rw [e1]; exact he'
    · have hb' : b < s.heap.objs.size := by
        have e' : b = e ∨ b = it := by simpa using hb
        rcases e' with z | z
        · rw [z]; exact hel
        · rw [z]; exact hil
      rw [upd_ne (Nat.ne_of_lt hb')]
      exact (hf b hb).1
  done := by
    intro X hP hw hK hc i pins s σ H E I hf st hg
    subst hP hw hK
    obtain ⟨⟨old, he⟩, hit, hne, hat, hae⟩ := st
    obtain ⟨xs, hq, hx⟩ := hg
    obtain ⟨its, rv, p, hz⟩ := I.tuple hq
    obtain ⟨f0, f1, f2, f3, f4, f5⟩ := hf it (by simp)
    have hl := rv.length
    subst hx
    exact wpAny_pyNext_enum_endD (Draws.tuple (A := X.A.in1) (I.ok.hd hc) it a hat its.toArray) he ⟨by rw [List.size_toArray, ← hl]; exact hit, p⟩ fun h' eb => ⟨rfl, I.turned (t' := s.toks) (fun b o hb q => eb b o hb q) f0 f1 f3 f4 f5⟩
  self := fun A i s Q E st h => let ⟨⟨_, he⟩, _⟩ := st; wpAny_pyIter_enum he h
end Tw
namespace Tw
open PySem PySem.Spec PyProof.Rows L2 HT
section
variable {X : Cx}
theorem pi_enumT {e : Expr} {ta : TA} {p pos tpos : Pos} {elts : List Expr} {kk : Nat} (hg : Gl X "enumerate") (hm : X.mg "enumerate" = none) (ha : PA X [e] ta) (hs : starEach [e] X.env = [(false, eval e X.env)] := by rfl) :
    PI X (.Tuple elts kk tpos) (.Call (.Name "enumerate" p) [e] [] pos) (fun σ H R => ta σ H fun vs H1 => ∃ a xs, vs = [.ref a] ∧ SqT X.K H1 a xs ∧ R (IteT X.K a) H1) := by
  refine ⟨fun pins s σ H R I h => ?_⟩
  refine Call_ (ld_blt I hg hm boot_enumerate (PyProof.Rows.callWith_type1 (thn (ha.run pos pins s σ H _ I h) fun us s1 ⟨vs, H1, I1, r1, q1⟩ => ?_) hs rfl))
  obtain ⟨a, xs, ex, hq, q⟩ := q1
  subst ex
  cases r1 with
  | cons r rr =>
    cases rr
    cases r
    obtain ⟨its, rv, p', hz⟩ := I1.tuple hq
    have hal : a < s1.heap.objs.size := p'.lt
    refine tw_call_enumT p' fun h' he hit hsz hk => wpAny_pyIter_enum he ?_
    have I2 : Inv X pins σ H1 { s1 with heap := h' } := I1.kept (t' := s1.toks) hk
    refine ⟨s1.heap.objs.size + 1, [s1.heap.objs.size + 1, s1.heap.objs.size], _, _, H1, rfl, I2, turn_enumT a (s1.heap.objs.size + 1) s1.heap.objs.size, ⟨⟨.none, he⟩, hit, Nat.succ_ne_self _, Nat.ne_of_lt hal, Nat.ne_of_lt (Nat.lt_succ_of_lt hal)⟩, fun b hb => ?_, q⟩
    have e' : b = s1.heap.objs.size + 1 ∨ b = s1.heap.objs.size := by simpa using hb
    have hle : s1.heap.objs.size ≤ b := by
      rcases e' with z | z
      · rw [z]; exact Nat.le_add_right _ _
      · rw [z]; exact Nat.le_refl _
    exact I1.fpOk hle (I1.hok.fresh hle)
end
def iEnumT (K : PySem.W.Frag) (ta : TA) : TI := fun σ H R => ta σ H fun vs H1 => ∃ a xs, vs = [.ref a] ∧ SqT K H1 a xs ∧ R (IteT K a) H1
theorem walk_enumT {K : PySem.W.Frag} {a : Addr} {xs : List V} : Walk (IteT K a) xs.length (fun H => SqT K H a xs) (YPair (fun i => some (.int (i : Nat))) (fun i => xs[i]?)) where
  goes := fun i H hi h => ⟨xs, xs[i], h, List.getElem?_eq_getElem hi⟩
  stops := fun H h => ⟨xs, h, rfl⟩
  yields := fun i H v H' hi h ⟨T, x, ev, hT, eH, hx⟩ => ⟨T, _, x, ev, hT, eH, rfl, hx xs h⟩
/-! ### xs[a:] = ys -/
section
variable {prog : Program} {w : World} {A : Around} {E : Value → Shared → Prop} {s : Shared}
theorem bounds_from {a n : Nat} (h : a ≤ n) : sliceBounds (some (a : Int)) none none n = ((a : Int), (n : Int), 1) := by
  simp only [sliceBounds, Option.getD_none]
  have h1 : ¬ ((a : Int) < 0) := by omega
  simp only [h1, if_false, show (1 : Int) > 0 by decide, if_true]
  congr 1
  omega
theorem setItem_from {l b sl : Addr} {items new : Array Value} {n n2 : Nat} {vl vu : Value} {a : Nat} {Q : Unit → Shared → Prop}
    (e : s.heap.get? l = some { cls := .type "list", data := .seq items n }) (e2 : s.heap.get? b = some { cls := .type "list", data := .seq new n2 }) (hne : l ≠ b)
    (hs : s.heap.IsSliceOf sl vl vu .none) (pl : IsPart vl (some (a : Int))) (pu : IsPart vu none) (hac : a ≤ items.size)
    (hsz : items.size + new.size ≤ sizeLine) (h : Q () { s with heap := s.heap.update l (Obj.mapSeq fun xs => xs.extract 0 a ++ new ++ xs.extract items.size xs.size) }) :
    wpAny (model prog w) A (setItem (.ref l) (.ref sl) (.ref b)) Q E s := by
  have hl : s.heap.IsList l items := PySem.IsL.isList e
  have hb : s.heap.IsList b new := PySem.IsL.isList e2
  obtain ⟨os, hos, hcs, hds⟩ := id hs
  have hTs : s.TypeIs (.ref sl) "slice" := ⟨os, hos, hcs⟩
  have hstep : ¬ ((rawPart none == rawInt 0) = true) := Bool.false_ne_true
  have hsame : Builtin.List.listSameRef (.ref l) (.ref b) = false := by
    unfold Builtin.List.listSameRef
    exact beq_eq_false_iff_ne.mpr hne
  have hmax : (max (a : Int) (items.size : Int)).toNat = items.size := by omega
  have hz' : ((fun xs : Array Value => xs.extract 0 a ++ new ++ xs.extract items.size xs.size) items).size ≤ sizeLine + 1 := by
    simp only [Array.size_append, Array.size_extract]
    omega
  unfold setItem
  try with_reducible refine wpAny_holding ?_
  first | refine wpAny_bind (wpAny_pure ?_) | skip
  refine wpAny_bind (wpAny_sequenceKey hl.typeIs (by decide) ?_)
  refine wpAny_bind (wpAny_callSpecial?_slot (name := Str.ofString "__setitem__") hl.typeIs slot_list_setitem
    (wpAny_call_entry slot_list_setitem hl.typeIs entry_list_setitem ?_ (args_list_setitem _ _ _)))
  show wpAny _ _ (Builtin.List.listSubscript? (.ref sl) >>= _) _ _ s
  refine wpAny_bind ?_
  unfold Builtin.List.listSubscript?
  refine wpAny_bind (wpAny_specialOf hTs slice_no_index ?_)
  simp only [Option.isNone_none, if_true]
  refine wpAny_pure ?_
  show wpAny _ _ (typeOf (.ref sl) >>= _) _ _ s
  refine wpAny_bind (wpAny_typeOf hTs ?_)
  first
    | rw [if_neg (by decide)]
    | refine PySem.W.KFB.if_not (by decide) ?_
  rw [listSliceParts_eq]
  refine wpAny_bind (wpAny_bind (wpAny_field hos hds (x := .none) rfl (wpAny_bind (wpAny_listPart .none ?_))))
  rw [if_neg hstep]
  refine wpAny_bind (wpAny_field hos hds (x := vl) rfl (wpAny_bind (wpAny_listPart pl ?_)))
  refine wpAny_bind (wpAny_field hos hds (x := vu) rfl (wpAny_bind (wpAny_listPart pu (wpAny_pure ?_))))
  first
    | simp only [hsame, Bool.false_eq_true, if_false]
    | refine PySem.W.KFB.if_not hsame ?_
    | (dsimp only
       rw [if_neg (by rw [hsame]; exact Bool.false_ne_true)])
  refine wpAny_bind (m := Builtin.List.listAllItems (.ref b) "must assign iterable to extended slice") ?_
  unfold Builtin.List.listAllItems
  refine wpAny_bind (wpAny_typeOf hb.typeIs ?_)
  first
    | refine PySem.W.KFB.if_so (by decide) ?_
    | rw [if_pos (by decide)]
    | simp only [beq_self_eq_true, Bool.true_or, if_true]
  unfold Builtin.List.listItems
  refine wpAny_bind (wpAny_seqItems e2 rfl (wpAny_pure ?_))
  refine wpAny_bind (wpAny_bind (wpAny_seqItems e rfl (wpAny_pure ?_)))
  refine wpAny_bind (wpAny_of_eq ((sliceIndices_raw (some (a : Int)) none none items.size (by simp)).trans (congrArg (pure : Int × Int × Int → Sem (Int × Int × Int)) (bounds_from hac))) ?_)
  show wpAny _ _ (if ((1 : Int) == 1) = true then _ else _) _ _ s
  rw [if_pos (by decide)]
  refine wpAny_bind (wpAny_rule ?_)
  first
    | simp only [notLongL hsz, Bool.false_eq_true, if_false]
    | refine PySem.W.KFB.if_not (notLongL hsz) ?_
  first | refine wpAny_bind (wpAny_pure ?_) | skip
  show wpAny _ _ (updateSeq l (fun xs => xs.extract 0 ((a : Int)).toNat ++ new ++ xs.extract (max (a : Int) (items.size : Int)).toNat xs.size) >>= _) _ _ s
  rw [hmax, Int.toNat_natCast]
  refine wpAny_bind (wpAny_updateSeq (hz := Nat.le_trans (Nat.le_add_right _ _) hsz) (_hz' := hz') e rfl ?_)
  refine wpAny_bind (wpAny_letGo ?_)
  first
    | exact wpAny_bind (wpAny_pure (wpAny_pure ⟨.none, rfl, wpAny_pure h⟩))
    | exact wpAny_pure ⟨.none, rfl, wpAny_pure h⟩
end
/-- o[a:] = v, o and v lists -/
def gFrom (to ti : TE) : TG := fun v σ H Q => to σ H fun o H1 => ti σ H1 fun i H2 => ∃ (l b : Addr) (xs ys : List V) (a : Int), o = .ref l ∧ i = .int a ∧ v = .ref b ∧ H2 l = some (.lst xs) ∧ H2 b = some (.lst ys) ∧ l ≠ b ∧ 0 ≤ a ∧ a ≤ xs.length ∧ xs.length + ys.length ≤ sizeLine ∧ Q σ (upd H2 l (.lst (xs.take a.toNat ++ ys)))
section
variable {X : Cx}
theorem pg_from {o lo : Expr} {to ti : TE} {p2 pos : Pos} (ho : PE X o to) (hi : PE X lo ti)
    (ha : ∀ v, assign (.Subscript o (.Slice (some lo) none none p2) pos) X.env v = (do
      let ov ← holding [v] (eval o X.env)
      let iv ← holding [v, ov] (eval (.Slice (some lo) none none p2) X.env)
      standAt pos
      holding [v, ov, iv] (setItem ov iv v)
      release [iv, v, ov] []) := by intro _; rfl) : PG X (.Subscript o (.Slice (some lo) none none p2) pos) (gFrom to ti) := by
  refine ⟨fun pins s σ H v u Q I r h => ?_⟩
  rw [ha]
  refine wpAny_bind (wpAny_holding (thn (ho.run pins s σ H _ I h) fun ov s1 ⟨x, H1, I1, r1, q1⟩ => ?_))
  refine wpAny_bind (wpAny_holding ?_)
  refine wpAny_Slice ?_
  rw [evalPart_some]
  refine thn (hi.run pins s1 σ H1 _ I1 q1) fun vl s2 ⟨y, H2, I2, r2, q2⟩ => ?_
  obtain ⟨l, b, xs, ys, a, ex, ey, ev, hl, hb, hne, h0, hle, hz, q⟩ := q2
  subst ex ey ev
  obtain ⟨t, rfl⟩ := r2
  cases r1
  cases r
  obtain ⟨a', rfl⟩ := Int.eq_ofNat_of_zero_le h0
  refine thn (po_none.run pins s2 σ H2 (fun o H3 => o = none ∧ H3 = H2) I2 ⟨rfl, rfl⟩) fun vu s3 ⟨u, H3, I3, pu, eu, e3⟩ => ?_
  subst eu e3
  rw [evalPart_none]
  refine wpAny_pure ?_
  refine wpAny_bind (wpAny_standAt (wpAny_bind (wpAny_holding ?_)))
  have I4 : Inv X pins σ H3 { s3 with heap := s3.heap.push { cls := .type "slice", data := .fields #[.int (a' : Int) t, vu, .none] } } := I3.kept (t' := s3.toks) fun b ob q => Heap.get?_push_of_some _ q
  obtain ⟨z, its, n, r, hlen, e⟩ := I4.lstM hl
  obtain ⟨z2, its2, n2, r2, hlen2, e2⟩ := I4.lstM hb
  refine setItem_from (a := a') e e2 hne (Heap.IsSliceOf.new _ _ _ _) (.int _ _) pu (by rw [List.size_toArray]; omega) (by rw [List.size_toArray, List.size_toArray]; omega) ?_
  refine wpAny_release ⟨σ, _, I4.lset (ys := xs.take a' ++ ys) (its' := its.take a' ++ its2) (t' := s3.toks) hl e ?_ (Vals.append (r.take _) r2) ?_, ?_⟩
  · have h3 := splice_eq its its2 a' its.length
    rw [List.drop_length, List.append_nil] at h3
    simpa using h3
  · rw [List.length_append, List.length_take]; omega
  · simpa using q
end
end Tw
set_option Elab.async false
set_option linter.all false
set_option maxRecDepth 100000
set_option maxHeartbeats 4000000
/-! isinstance with one built-in type by name; == and != of nested data up to a hundred and fifty deep. -/
namespace Tw
open PySem PySem.Spec PyProof.Rows L2
section
variable {X : Cx} {k : Nat} {p pos p2 : Pos} {e : Expr} {t : TE}
abbrev rIsiB (K : PySem.W.Frag) (T : String) : List V → Hp → VK → Prop := fun xs H Q => ∃ (x : V) (t0 : String) (b : Bool), xs = [x, .ty T] ∧ TyX K H x (.type t0) ∧ kitB t0 T = some b ∧ Q (.bl b) H
abbrev tIsi (K : PySem.W.Frag) (T : String) (t : TE) : TE := tCB (rIsiB K T) (tCons t (tCons (tC (.ty T)) tNil))
theorem call_isiB {T : String} : CallR X (.builtin "isinstance") (rIsiB X.K T) := by
  intro pins s σ H xs us Q I r h
  obtain ⟨x, t0, b, rfl, ty, kb, q1⟩ := h
  exact call_isi pins s σ H _ us Q I r ⟨x, .ty T, .type t0, .type T, b, rfl, .ty T, ty, kit_ty kb, q1⟩
theorem pe_tyN {x : Str} {T : String} (hg : Gl X x) (hm : X.mg x = none) (hv : bootBuiltins x = some (.type T)) (hn : x ≠ "__name__" := by decide) (hdb : (x == ("__debug__" : Str)) = false := by decide) :
    PE X (.Name x p) (tC (.ty T)) := ⟨fun _ _ _ H _ I h => ld_blt I hg hm hv ⟨.ty T, H, I, rfl, h⟩ hn hdb⟩
theorem pe_isiB {x : Str} {T : String} (hm : X.mg "isinstance" = none) (hm2 : X.mg x = none) (he : PE X e t) (hg : Gl X "isinstance" := by rfl) (hg2 : Gl X x := by rfl) (hv : bootBuiltins x = some (.type T) := by decide +kernel)
    (hn : x ≠ "__name__" := by decide) (hdb : (x == ("__debug__" : Str)) = false := by decide)
    (hs : starEach [e, .Name x p2] X.env = (false, eval e X.env) :: starEach [.Name x p2] X.env := by rfl) (hpl : (backTo pos (starEach [.Name x p2] X.env)).any (·.1) = false := by rfl) :
    PE X (.Call (.Name "isinstance" p) [e, .Name x p2] [] pos) (tIsi X.K T t) :=
  pe_callB call_isiB hg hm (by decide +kernel) (pa_cons he (pa_cons (pe_tyN hg2 hm2 hv hn hdb) pa_nil) hs) (by decide) (by decide) hs hpl
abbrev rEqB (K : PySem.W.Frag) : R2 := fun x y H Q => ∃ d e, Dp K H x d ∧ Dp K H y e ∧ d.canLay0 = true ∧ e.canLay0 = true ∧ min d.depth e.depth ≤ 200 ∧ Q (.bl (PyData.eqv d e)) H
abbrev rNeB (K : PySem.W.Frag) : R2 := fun x y H Q => ∃ d e, Dp K H x d ∧ Dp K H y e ∧ d.canLay0 = true ∧ e.canLay0 = true ∧ min d.depth e.depth ≤ 200 ∧ Q (.bl (!PyData.eqv d e)) H
theorem op_eqB (hr : Room k X.A) : OpR X (compareOp .Eq) (rEqB X.K) := by
  intro pins s σ H x y v u Q I rx ry h
  obtain ⟨d, e, hd, he, sd, se, m, q⟩ := h
  obtain ⟨as, r1⟩ := Dp.reads I d x v hd rx
  obtain ⟨bs, r2⟩ := Dp.reads I e y u he ry
  exact SeqAt.compareEq_reads r1 r2 sd se (by have := hr.un; omega) ⟨.bl _, H, I, rfl, q⟩
theorem op_neB (hr : Room k X.A) : OpR X (compareOp .NotEq) (rNeB X.K) := by
  intro pins s σ H x y v u Q I rx ry h
  obtain ⟨d, e, hd, he, sd, se, m, q⟩ := h
  obtain ⟨as, r1⟩ := Dp.reads I d x v hd rx
  obtain ⟨bs, r2⟩ := Dp.reads I e y u he ry
  exact SeqAt.compareNe_reads r1 r2 sd se (by have := hr.un; omega) ⟨.bl _, H, I, rfl, q⟩
end
end Tw
set_option Elab.async false
set_option linter.all false
set_option maxRecDepth 100000
set_option maxHeartbeats 4000000
/-! the program's names and ends -/
namespace Tw
open PySem PySem.Spec PyProof.Rows L2 TL
local macro_rules | `(tactic| walk_at "rd") => `(tactic| try simp only [o_op, o_un, o_var, o_c, o_cb, o_call, o_cons, o_nil, o_tup, o_lst, o_I0, o_I, o_int1, o_intb, o_abs, o_test, o_b, o_not, o_and, o_or, o_andV, o_orV, o_notV, o_ifE, o_isN, o_notN, o_eq, o_ne, o_seq, o_next, o_asg, o_name, o_sub, o_par, o_par3, o_drop, o_ret, o_retN, o_ifS, o_sl, o_noPart, o_part, o_bm, o_bm0, o_m0, o_m1, o_dget, o_dput, o_din, o_dnotin, o_listKeys, e_bl, e_int, e_str, e_some, e_two, e_three, o_for, o_lc, o_iList, o_iTup, o_iRng1, e_int1, e_ref, o_yes, o_wipe0, o_wipe1, o_disp, o_dnew, o_pairs0, o_pairs1, o_lock, o_keysM, o_gtup, o_gcons, o_gnil, true_and, if_pos, List.getElem?_cons_zero, List.getElem?_cons_succ, List.set_cons_zero, List.set_cons_succ, List.append_nil])
theorem str_ext {x y : Str} (h : x.cps.toList = y.cps.toList) : x = y := by
  cases x; cases y
  simp only [Str.mk.injEq]
  exact Array.toList_inj.mp h
def nameB (s : Str) : Bool := !decide (8 < (s.length : Int)) && (Txt.isascii s && (Txt.isalpha s && Txt.islower s))
theorem name_let : ∀ k : Fin 26, (decide (97 + k.val < 128) && (Unicode.isAlpha (97 + k.val) && (Unicode.isLower (97 + k.val) && !(Unicode.isUpper (97 + k.val) || Unicode.isTitle (97 + k.val))))) = true := by decide +kernel
theorem nameB_of {z : Str} (h : IsName z) : nameB z = true := by
  have hl : ∀ c ∈ z.cps.toList, (decide (c < 128) && (Unicode.isAlpha c && (Unicode.isLower c && !(Unicode.isUpper c || Unicode.isTitle c)))) = true := fun c hc => by
    have h1 := h.let_ c hc
    have h2 := name_let ⟨c - 97, by omega⟩
    have e : 97 + (c - 97) = c := by omega
    simp only [e] at h2
    exact h2
  simp only [Bool.and_eq_true, Bool.not_eq_true', Bool.or_eq_false_iff, decide_eq_true_eq] at hl
  have h8 := h.eight
  have h1 := h.one
  unfold nameB Txt.isascii Txt.isalpha Txt.islower
  simp only [Bool.and_eq_true, Bool.not_eq_true', decide_eq_true_eq, decide_eq_false_iff_not, ← Array.all_toList, ← Array.any_toList, List.all_eq_true, List.any_eq_false, List.any_eq_true, Bool.or_eq_true, not_or]
  refine ⟨by omega, fun c hc => (hl c hc).1, ⟨by omega, fun c hc => (hl c hc).2.1⟩, ?_, fun c hc => ?_⟩
  · have h3 : z.cps.toList ≠ [] := fun e => by rw [len_tl, e] at h1; simp at h1
    obtain ⟨c, r, e⟩ := List.exists_cons_of_ne_nil h3
    have hc : c ∈ z.cps.toList := by rw [e]; exact List.mem_cons_self ..
    exact ⟨c, hc, (hl c hc).2.2.1⟩
  · have := (hl c hc).2.2.2
    rw [this.1, this.2]; exact ⟨Bool.false_ne_true, Bool.false_ne_true⟩
/-- a value that is no string -/
def NoStr (K : PySem.W.Frag) (H : Hp) (x : V) : Prop := ∃ t0, TyX K H x (.type t0) ∧ kitB t0 "str" = some false
def sp_is_name (K : PySem.W.Frag) : Sp := fun vs H Q _ => ∃ x, vs = [x] ∧ ((∃ s : Str, x = .str s ∧ s.length ≤ sizeLine ∧ Q (.bl (nameB s)) H) ∨ (NoStr K H x ∧ Q (.bl false) H))
def endB (s : Str) : Bool := inV (.str (cutS s none (some 1))) [.str "+", .str "-"] && nameB (cutS s (some 1) none)
def sp_u_is_end (K : PySem.W.Frag) : Sp := fun vs H Q _ => ∃ x, vs = [x] ∧ ((∃ s : Str, x = .str s ∧ s.length ≤ sizeLine ∧ ∀ H', Kp H H' → Q (.bl (endB s)) H') ∨ (NoStr K H x ∧ Q (.bl false) H))
def t_is_name (K : PySem.W.Frag) : TS :=
  (tSeq (tIfS (tOr (tNot (tB (tIsi K "str" (tVar 0)))) (tTest (tOp (rI0 fun i j => .bl (decide (j < i))) (tCB rLenStr (tCons (tVar 0) tNil)) (tC (.int 8))))) (tRet (tC (.bl false))) tNext)
  (tRet (tAndV (tM0 (rTxtB Txt.isascii) (tVar 0)) (tAndV (tM0 (rTxtB Txt.isalpha) (tVar 0)) (tM0 (rTxtB Txt.islower) (tVar 0))))))
def t_u_is_end (K : PySem.W.Frag) : TS :=
  (tRet (tAndV (tIsi K "str" (tVar 0)) (tAndV (tOp (rIn K false) (L2.tSl rSlS (tVar 0) tNoPart (tPart (tC (.int 1)))) (tTup (tCons (tC (.str "+")) (tCons (tC (.str "-")) tNil)))) (tCall (sp_is_name K) [] E0 (tCons (L2.tSl rSlS (tVar 0) (tPart (tC (.int 1))) tNoPart) tNil)))))
section
variable {K : PySem.W.Frag}
theorem len_is_name (vs : List V) (H : Hp) (Q : VK) (E : XK) (h : sp_is_name K vs H Q E) : vs.length = 1 := by
  obtain ⟨_, rfl, _⟩ := h; rfl
theorem len_u_is_end (vs : List V) (H : Hp) (Q : VK) (E : XK) (h : sp_u_is_end K vs H Q E) : vs.length = 1 := by
  obtain ⟨_, rfl, _⟩ := h; rfl
theorem o_isiS {s : Str} {H : Hp} {Q : VK} (q : Q (.bl true) H) : rIsiB K "str" [.str s, .ty "str"] H Q := ⟨_, "str", true, rfl, .base (.str s), by decide +kernel, q⟩
theorem o_isiN {x : V} {H : Hp} {Q : VK} (h : NoStr K H x) (q : Q (.bl false) H) : rIsiB K "str" [x, .ty "str"] H Q := by
  obtain ⟨t0, a, b⟩ := h
  exact ⟨_, t0, false, rfl, a, b, q⟩
theorem pure_is_name (vs : List V) (H : Hp) (Q : VK) (E : XK) (h : sp_is_name K vs H Q E) : t_is_name K { nx := fun _ H' => Q .non H', rt := Q } (startN 1 vs) H := by
  obtain ⟨x, rfl, h⟩ := h
  show t_is_name K _ [some x] H
  unfold t_is_name
  walk_at "rd"
  rcases h with ⟨s, rfl, hz, q⟩ | ⟨hn, q⟩
  · refine o_isiS ?_
    walk_at "rd"
    simp only [Bool.not_true, Bool.false_eq_true, if_false]
    refine ⟨s, rfl, hz, ?_⟩
    walk_at "rd"
    by_cases h8 : (8 : Int) < s.length
    · have e : nameB s = false := by unfold nameB; rw [decide_eq_true h8]; rfl
      rw [e] at q
      simpa [h8] using q
    · simp only [h8, decide_false, Bool.false_eq_true, if_false]
      have e : nameB s = (Txt.isascii s && (Txt.isalpha s && Txt.islower s)) := by unfold nameB; rw [decide_eq_false h8]; rfl
      rw [e] at q
      refine ⟨⟨s, rfl⟩, ?_⟩
      cases h1 : Txt.isascii s <;> cases h2 : Txt.isalpha s <;> rw [h1] at q <;> rw [h2] at q <;> first | exact q | exact ⟨⟨s, rfl⟩, q⟩ | exact ⟨⟨s, rfl⟩, ⟨s, rfl⟩, q⟩ | skip
  · refine o_isiN hn ?_
    walk_at "rd"
    simpa using q
theorem cut0 {s : Str} : (cutS s none (some 1)).cps.toList = s.cps.toList.take 1 := by
  rw [tl_cut, show (some (1 : Int)) = some ((1 : Nat) : Int) from rfl, HT.sIx_none, HT.sIx_nat, List.drop_zero, Nat.sub_zero]
  rw [len_tl]
  by_cases h : 1 ≤ s.cps.toList.length
  · rw [Nat.min_eq_left h]
  · rw [Nat.min_eq_right (by omega)]
    have : s.cps.toList = [] := List.eq_nil_of_length_eq_zero (by omega)
    rw [this]; rfl
theorem cut1 {s : Str} : (cutS s (some 1) none).cps.toList = s.cps.toList.drop 1 := by
  rw [tl_cut, show (some (1 : Int)) = some ((1 : Nat) : Int) from rfl, HT.sIx_none, HT.sIx_nat, len_tl]
  by_cases h : 1 ≤ s.cps.toList.length
  · rw [Nat.min_eq_left h, List.take_of_length_le]; rw [List.length_drop]; omega
  · have : s.cps.toList = [] := List.eq_nil_of_length_eq_zero (by omega)
    rw [this]; rfl
theorem pure_u_is_end (vs : List V) (H : Hp) (Q : VK) (E : XK) (h : sp_u_is_end K vs H Q E) : t_u_is_end K { nx := fun _ H' => Q .non H', rt := Q } (startN 1 vs) H := by
  obtain ⟨x, rfl, h⟩ := h
  show t_u_is_end K _ [some x] H
  unfold t_u_is_end
  walk_at "rd"
  rcases h with ⟨s, rfl, hz, q⟩ | ⟨hn, q⟩
  · refine o_isiS ?_
    walk_at "rd"
    refine ⟨s, rfl, hz, by show 2 ≤ sizeLine; decide, fun p hp => ?_⟩
    generalize hG : upd H p _ = H1
    obtain ⟨k1, e1⟩ := gen_new hp hG
    clear hG
    refine ⟨p, _, rfl, .inr (SqT.of e1), rfl, rfl, ?_⟩
    walk_at "rd"
    simp only [Bool.false_eq_true, if_false]
    have q1 := q H1 k1
    unfold endB at q1
    cases hi : inV (.str (cutS s none (some 1))) [.str "+", .str "-"] with
    | false => rw [hi] at q1; simpa using q1
    | true =>
      simp only [if_true]
      rw [hi] at q1
      refine ⟨s, rfl, hz, _, rfl, .inl ⟨_, rfl, ?_, by simpa using q1⟩⟩
      rw [len_tl, cut1, List.length_drop, ← len_tl]; omega
  · refine o_isiN hn ?_
    walk_at "rd"
    simpa using q
end
end Tw
set_option Elab.async false
set_option linter.all false
set_option maxRecDepth 100000
set_option maxHeartbeats 4000000
/-! rows, end by end -/
namespace Tw
open PySem PySem.Spec PyProof.Rows L2 TL
local macro_rules | `(tactic| walk_at "rd") => `(tactic| try simp only [o_op, o_un, o_var, o_c, o_cb, o_call, o_cons, o_nil, o_tup, o_lst, o_I0, o_I, o_int1, o_intb, o_abs, o_test, o_b, o_not, o_and, o_or, o_andV, o_orV, o_notV, o_ifE, o_isN, o_notN, o_eq, o_ne, o_seq, o_next, o_asg, o_name, o_sub, o_par, o_par3, o_drop, o_ret, o_retN, o_ifS, o_sl, o_noPart, o_part, o_bm, o_bm0, o_m0, o_m1, o_dget, o_dput, o_din, o_dnotin, o_listKeys, e_bl, e_int, e_str, e_some, e_two, e_three, o_for, o_lc, o_iList, o_iTup, o_iRng1, e_int1, e_ref, o_yes, o_wipe0, o_wipe1, o_disp, o_dnew, o_pairs0, o_pairs1, o_lock, o_keysM, o_gtup, o_gcons, o_gnil, true_and, if_pos, List.getElem?_cons_zero, List.getElem?_cons_succ, List.set_cons_zero, List.set_cons_succ, List.append_nil])
/-- an end: is it the first one, of which node -/
abbrev En := Bool × Str
def en (e : En) : Str := if e.1 then Fo.plus e.2 else Fo.minus e.2
namespace Fo
def app : Fo → Fo → Fo
  | nil, g => g
  | cons n ks r, g => cons n ks (app r g)
def erow : Fo → List En
  | nil => []
  | cons n ks r => (true, n) :: (erow ks ++ (false, n) :: erow r)
theorem row_erow : ∀ f : Fo, f.row = f.erow.map en
  | nil => rfl
  | cons n ks r => by simp only [row, erow, List.map_cons, List.map_append, row_erow ks, row_erow r]; rfl
theorem app_nil : ∀ f : Fo, f.app nil = f
  | nil => rfl
  | cons n ks r => by rw [app, app_nil r]
theorem app_assoc : ∀ f g h : Fo, (f.app g).app h = f.app (g.app h)
  | nil, _, _ => rfl
  | cons n ks r, g, h => by simp only [app, app_assoc r g h]
theorem tops_app : ∀ f g : Fo, (f.app g).tops = f.tops ++ g.tops
  | nil, _ => rfl
  | cons n ks r, g => by simp only [app, tops, tops_app r g, List.cons_append]
end Fo
/-- the names that begin in these ends -/
def pls (es : List En) : List Str := (es.filter (·.1)).map (·.2)
theorem pls_app (a b : List En) : pls (a ++ b) = pls a ++ pls b := by simp [pls]
theorem pls_row : ∀ f : Fo, pls f.erow = f.nm
  | .nil => rfl
  | .cons n ks r => by
    show pls ((true, n) :: (ks.erow ++ (false, n) :: r.erow)) = _
    have h : pls ((true, n) :: (ks.erow ++ (false, n) :: r.erow)) = n :: (pls ks.erow ++ pls r.erow) := by simp [pls]
    rw [h, pls_row ks, pls_row r]; rfl
theorem erow_nm : ∀ (f : Fo) (e : En), e ∈ f.erow → e.2 ∈ f.nm
  | .cons n ks r, e, h => by
    rcases List.mem_cons.mp h with h | h
    · rw [h]; exact List.mem_cons_self ..
    · rcases List.mem_append.mp h with h | h
      · exact List.mem_cons_of_mem _ (List.mem_append_left _ (erow_nm ks e h))
      · rcases List.mem_cons.mp h with h | h
        · rw [h]; exact List.mem_cons_self ..
        · exact List.mem_cons_of_mem _ (List.mem_append_right _ (erow_nm r e h))
/-- these ends lead from what is open (with what is done ahead of it) and what is done since to the whole F, with at most B open -/
def Runs (B : Nat) : List En → List (Fo × Str) → Fo → Fo → Prop
  | [], zs, c, F => zs = [] ∧ c = F
  | (true, n) :: es, zs, c, F => zs.length < B ∧ Runs B es ((c, n) :: zs) .nil F
  | (false, n) :: es, zs, c, F => ∃ l zs', zs = (l, n) :: zs' ∧ Runs B es zs' (l.app (.cons n c .nil)) F
theorem runs_app {B : Nat} {F : Fo} : ∀ (f : Fo) (es : List En) (zs : List (Fo × Str)) (c : Fo), f.dp + zs.length ≤ B → Runs B es zs (c.app f) F → Runs B (f.erow ++ es) zs c F
  | .nil, es, zs, c, _, h => by rw [Fo.app_nil] at h; exact h
  | .cons n ks r, es, zs, c, hd, h => by
    have hd2 : max (ks.dp + 1) r.dp + zs.length ≤ B := hd
    show Runs B ((true, n) :: ((ks.erow ++ (false, n) :: r.erow) ++ es)) zs c F
    refine ⟨by omega, ?_⟩
    rw [List.append_assoc]
    refine runs_app ks _ _ _ (by rw [List.length_cons]; omega) ⟨c, zs, rfl, ?_⟩
    refine runs_app r _ _ _ (by omega) ?_
    rw [Fo.app_assoc]; exact h
theorem runs_all {B : Nat} (f : Fo) (h : f.dp ≤ B) : Runs B f.erow [] .nil f := by
  have := runs_app (B := B) (F := f) f [] [] .nil (by simpa using h) ⟨rfl, rfl⟩
  rwa [List.append_nil] at this
/-- a wood whose names are names, unlike, and not too many -/
structure NameOk (f : Fo) : Prop where
  nd : f.nm.Nodup
  nms : ∀ z ∈ f.nm, IsName z
  sz : f.nm.length ≤ 1000
/-! what the ends are as texts -/
theorem en_codes (e : En) : (en e).cps.toList = (if e.1 then 43 else 45) :: e.2.cps.toList := by
  obtain ⟨b, n⟩ := e
  have l1 : (("+" : Str)).cps.toList = [43] := by decide +kernel
  have l2 : (("-" : Str)).cps.toList = [45] := by decide +kernel
  cases b
  · show (("-" : Str) ++ n).cps.toList = _
    rw [tl_app, l2]; rfl
  · show (("+" : Str) ++ n).cps.toList = _
    rw [tl_app, l1]; rfl
theorem en_len (e : En) : (en e).length = e.2.length + 1 := by rw [len_tl, en_codes, List.length_cons, ← len_tl]
theorem en_cut1 (e : En) : cutS (en e) (some 1) none = e.2 := str_ext (by rw [cut1, en_codes]; rfl)
theorem en_at0 (e : En) : atI (en e).cps.toList 0 = some (if e.1 then 43 else 45) := by rw [en_codes]; exact atI_nat (j := 0) rfl
theorem en_end {e : En} (h : IsName e.2) : endB (en e) = true := by
  unfold endB
  rw [en_cut1, nameB_of h, Bool.and_true]
  obtain ⟨b, n⟩ := e
  have e1 : cutS (en (b, n)) none (some 1) = if b then ("+" : Str) else ("-" : Str) := by
    refine str_ext ?_
    rw [cut0, en_codes]
    cases b
    · show [45] = _; decide +kernel
    · show [43] = _; decide +kernel
  rw [e1]
  cases b <;> decide +kernel
theorem p43 : (V.str ⟨#[43]⟩ = V.str "+") := by
  congr 1
theorem p45 : ¬(V.str ⟨#[45]⟩ = V.str "+") := by
  intro h
  have := V.str.inj h
  exact absurd this (by decide +kernel)
end Tw
set_option Elab.async false
set_option linter.all false
set_option maxRecDepth 100000
set_option maxHeartbeats 4000000
/-! rows and woods of the program -/
namespace Tw
open PySem PySem.Spec PyProof.Rows L2 TL
local macro_rules | `(tactic| walk_at "rd") => `(tactic| try simp only [o_op, o_un, o_var, o_c, o_cb, o_call, o_cons, o_nil, o_tup, o_lst, o_I0, o_I, o_int1, o_intb, o_abs, o_test, o_b, o_not, o_and, o_or, o_andV, o_orV, o_notV, o_ifE, o_isN, o_notN, o_eq, o_ne, o_seq, o_next, o_asg, o_name, o_sub, o_par, o_par3, o_drop, o_ret, o_retN, o_ifS, o_sl, o_noPart, o_part, o_bm, o_bm0, o_m0, o_m1, o_dget, o_dput, o_din, o_dnotin, o_listKeys, e_bl, e_int, e_str, e_some, e_two, e_three, o_for, o_lc, o_iList, o_iTup, o_iRng1, e_int1, e_ref, o_yes, o_wipe0, o_wipe1, o_disp, o_dnew, o_pairs0, o_pairs1, o_lock, o_keysM, o_gtup, o_gcons, o_gnil, true_and, if_pos, List.getElem?_cons_zero, List.getElem?_cons_succ, List.set_cons_zero, List.set_cons_succ, List.append_nil])
/-- a wood whose row may be taken -/
structure RowOk (f : Fo) : Prop where
  nd : f.nm.Nodup
  nms : ∀ z ∈ f.nm, IsName z
  sz : f.nm.length ≤ 1000
  dp : f.dp ≤ 100
def sp_u_bad_place (K : PySem.W.Frag) : Sp := fun vs H Q _ => ∃ a f, vs = [.ref a] ∧ SqT K H a (f.row.map V.str) ∧ RowOk f ∧ ∀ H', Kp H H' → Q .non H'
theorem RowOk.ok {f : Fo} (h : RowOk f) : NameOk f := ⟨h.nd, h.nms, h.sz⟩
def sp_unchecked_wood (K : PySem.W.Frag) : Sp := fun vs H Q _ => ∃ a f, vs = [.ref a] ∧ (SqL K H a (f.row.map V.str) ∨ SqT K H a (f.row.map V.str)) ∧ NameOk f ∧ ∀ p H', Kp H H' → WoodAt K H' p f → Q (.ref p) H'
def sp_wood_of (K : PySem.W.Frag) : Sp := fun vs H Q _ => ∃ a f, vs = [.ref a] ∧ SqT K H a (f.row.map V.str) ∧ RowOk f ∧ ∀ p H', Kp H H' → WoodAt K H' p f → Q (.ref p) H'
def sp_row_of (K : PySem.W.Frag) : Sp := fun vs H Q _ => ∃ a f, vs = [.ref a] ∧ WoodAt K H a f ∧ f.nm.length ≤ 1000 ∧ (∀ z ∈ f.nm, z.length ≤ 100) ∧ ∀ p H', Kp H H' → SqT K H' p (f.row.map V.str) → Q (.ref p) H'
def t_u_bad_place_b1 (K : PySem.W.Frag) : TS :=
  (tSeq (tIfS (tNot (tB (tCall (sp_u_is_end K) [] E0 (tCons (tVar 4) tNil)))) (tRet (tVar 3)) tNext)
  (tSeq (tAsg (L2.tSl rSlS (tVar 4) (tPart (tC (.int 1))) tNoPart) (gName 5))
  (tIfS (tTest (tOp rEq (tOp rIxS (tVar 4) (tC (.int 0))) (tC (.str "+")))) (tSeq (tIfS (tOr (tB (tDIn (tVar 5) (tVar 1))) (tTest (tOp rEq (tCB (rLenSeq K) (tCons (tVar 2) tNil)) (tC (.int 100))))) (tRet (tVar 3)) tNext)
  (tSeq (sDPut (tVar 1) (tVar 5) (tC (.bl true)))
  (tDrop (tBM K "list" rAppend (tVar 2) (tCons (tVar 5) tNil))))) (tSeq (tIfS (tTest (tOp (rNeB K) (L2.tSl (rSlL K) (tVar 2) (tPart (tUn (rU fun i => .int (-i)) (tC (.int 1)))) tNoPart) (tLst (tCons (tVar 5) tNil)))) (tRet (tVar 3)) tNext)
  (tDrop (tBM0 K "list" rPop (tVar 2)))))))
def t_u_bad_place (K : PySem.W.Frag) : TS :=
  (tSeq (tAsg tDNewK (gName 1))
  (tSeq (tAsg (tLst tNil) (gName 2))
  (tSeq (tFor (iEnumT K (tCons (tVar 0) tNil)) (gTup K 2 (gCons (gName 3) (gCons (gName 4) gNil)))
  (t_u_bad_place_b1 K))
  (tRet (tIf (tTru K (tVar 2)) (tCB (rLenSeq K) (tCons (tVar 0) tNil)) (tC .non))))))
theorem o_enumT {K : PySem.W.Frag} {ta : TA} {σ : L2.St} {H : Hp} {R : It → Hp → Prop} : iEnumT K ta σ H R = ta σ H fun vs H1 => ∃ a xs, vs = [.ref a] ∧ SqT K H1 a xs ∧ R (IteT K a) H1 := rfl
theorem o_tru {K : PySem.W.Frag} {ta : TE} {σ : L2.St} {H : Hp} {Q : Bool → Hp → Prop} : tTru K ta σ H Q = ta σ H fun x H' => ∃ k, TruV K x H' k ∧ Q k H' := rfl
theorem o_rU {g : Int → V} {i : Int} {H : Hp} {Q : VK} : rU g (.int i) H Q = Q (g i) H := by
  apply propext; constructor
  · rintro ⟨a, e, q⟩; cases e; exact q
  · intro q; exact ⟨i, rfl, q⟩
section
variable {K : PySem.W.Frag}
theorem len_u_bad_place (vs : List V) (H : Hp) (Q : VK) (E : XK) (h : sp_u_bad_place K vs H Q E) : vs.length = 1 := by
  obtain ⟨_, _, rfl, _⟩ := h; rfl
theorem len_unchecked_wood (vs : List V) (H : Hp) (Q : VK) (E : XK) (h : sp_unchecked_wood K vs H Q E) : vs.length = 1 := by
  obtain ⟨_, _, rfl, _⟩ := h; rfl
theorem len_wood_of (vs : List V) (H : Hp) (Q : VK) (E : XK) (h : sp_wood_of K vs H Q E) : vs.length = 1 := by
  obtain ⟨_, _, rfl, _⟩ := h; rfl
theorem len_row_of (vs : List V) (H : Hp) (Q : VK) (E : XK) (h : sp_row_of K vs H Q E) : vs.length = 1 := by
  obtain ⟨_, _, rfl, _⟩ := h; rfl
/-- the names that are open, the outermost first -/
def opn (zs : List (Fo × Str)) : List V := zs.reverse.map fun z => V.str z.2
theorem opn_cons (c : Fo) (n : Str) (zs : List (Fo × Str)) : opn ((c, n) :: zs) = opn zs ++ [.str n] := by simp [opn]
theorem opn_len (zs : List (Fo × Str)) : (opn zs).length = zs.length := by simp [opn]
theorem cut_last (xs : List V) (x : V) : cutV (xs ++ [x]) (some (-1)) none = [x] := by
  unfold cutV
  have h : HT.sIx (xs ++ [x]).length 0 (some (-1)) = xs.length := by
    unfold HT.sIx
    simp only [show (-1 : Int) < 0 by decide, if_true, List.length_append, List.length_singleton]; omega
  rw [h, HT.sIx_none]; simp
theorem strOk_of {z : Str} (h : IsName z) : PyData.strOk z = true := by
  unfold PyData.strOk
  rw [← Array.all_toList, List.all_eq_true]
  intro c hc
  have := h.let_ c hc
  simp only [decide_eq_true_eq]; omega
theorem drop_at {α : Type} {l : List α} {i : Nat} {x : α} (h : l[i]? = some x) : l.drop i = x :: l.drop (i + 1) := by
  obtain ⟨hi, e⟩ := List.getElem?_eq_some_iff.mp h
  rw [List.drop_eq_getElem_cons hi, e]
theorem pure_u_bad_place (vs : List V) (H : Hp) (Q : VK) (E : XK) (h : sp_u_bad_place K vs H Q E) : t_u_bad_place K { nx := fun _ H' => Q .non H', rt := Q } (startN 6 vs) H := by
  obtain ⟨a, f, rfl, ha, hf, q⟩ := h
  show t_u_bad_place K _ [some (.ref a), none, none, none, none, none] H
  unfold t_u_bad_place
  have hz := sizeLine_eq
  have hsz := hf.sz
  walk_at "rd"
  intro sn hsn
  generalize hG : upd H sn _ = H1
  obtain ⟨k1, e1⟩ := gen_new hsn hG
  clear hG
  refine ⟨Nat.zero_le _, fun ar har => ?_⟩
  generalize hG : upd H1 ar _ = H2
  obtain ⟨k2, e2⟩ := gen_new har hG
  clear hG
  have k02 : Kp H H2 := fun b o e => k2 _ _ (k1 _ _ e)
  rw [o_enumT]
  walk_at "rd"
  refine ⟨a, _, rfl, Tk.kp k02 _ _ ha, ?_⟩
  rw [Fo.row_erow, List.map_map] at ha
  have hlen : (f.erow.map (V.str ∘ en)).length = 2 * f.nm.length := by
    rw [List.length_map, ← row_len f, Fo.row_erow, List.length_map]
  refine fb_walk (walk_enumT (xs := f.erow.map (V.str ∘ en))) (fun i σ H3 => ∃ zs c seen x y z, Kp H H3 ∧ H3 sn = some (.dK (kvs seen fun _ => .bl true)) ∧ H3 ar = some (.lst (opn zs)) ∧ Runs 100 (f.erow.drop i) zs c f ∧ (seen ++ pls (f.erow.drop i)).Nodup ∧ seen.length ≤ i ∧
    σ = [some (.ref a), some (.ref sn), some (.ref ar), x, y, z]) ?_ ?_ ?_ ?_
  · refine ⟨[], .nil, [], _, _, _, k02, k2 _ _ e1, e2, runs_all f hf.dp, ?_, Nat.le_refl _, rfl⟩
    rw [List.nil_append, List.drop_zero, pls_row]; exact hf.nd
  · rintro i σ H3 _ ⟨zs, c, seen, x, y, z, k3, _⟩
    exact Tk.kp k3 _ _ ha
  · rintro i v σ H3 H4 hi ⟨zs, c, seen, x, y, z, k3, hs3, ha3, hr, hn, hsl, rfl⟩ ⟨T, x', y', rfl, hT, eH, ex, ey⟩
    obtain rfl := Option.some.inj ex
    replace ey : (f.erow.map (V.str ∘ en))[i]? = some y' := ey
    rw [List.getElem?_map, Option.map_eq_some_iff] at ey
    obtain ⟨e, he, rfl⟩ := ey
    rw [drop_at he] at hr hn
    have hie : IsName e.2 := hf.nms _ (erow_nm f e (List.mem_of_getElem? he))
    have h8 := hie.eight
    obtain ⟨k4, e4⟩ := gen_new hT eH.symm
    walk_at "rd"
    refine ⟨T, _, rfl, SqT.of e4, rfl, _, _, rfl, _, _, rfl, rfl, ?_⟩
    unfold t_u_bad_place_b1
    walk_at "rd"
    refine ⟨_, rfl, .inl ⟨en e, rfl, by rw [en_len]; omega, fun H5 k5 => ?_⟩⟩
    rw [en_end hie]
    walk_at "rd"
    simp only [Bool.not_true, Bool.false_eq_true, if_false]
    refine ⟨en e, rfl, by rw [en_len]; omega, ?_⟩
    rw [en_cut1]
    refine o_ixS (by rw [en_len]; omega) (en_at0 e) ⟨rfl, ?_⟩
    have k35 : Kp H3 H5 := fun b o e => k5 _ _ (k4 _ _ e)
    have hs5 := k35 _ _ hs3
    have ha5 := k35 _ _ ha3
    have hsa : sn ≠ ar := fun z => by rw [z, ha5] at hs5; cases hs5
    have snH : H sn = none := hsn
    have arH : H ar = none := Kp.free k1 har
    obtain ⟨b, n⟩ := e
    cases b with
    | true =>
      obtain ⟨hlt, hr2⟩ := hr
      have hnn : n ∉ seen := by
        intro hm
        have : pls ((true, n) :: f.erow.drop (i + 1)) = n :: pls (f.erow.drop (i + 1)) := rfl
        rw [this] at hn
        exact (List.nodup_append.mp hn).2.2 n hm n (List.mem_cons_self ..) rfl
      refine ite2 (fun _ => ?_) fun h => absurd (by simpa using p43) h
      walk_at "rd"
      have hg := DGet.k (k := (Sum.inr n : Key)) hs5
      rw [valV_kvs, if_neg hnn] at hg
      refine ⟨sn, none, rfl, hg, ?_⟩
      simp only [Option.isSome_none, Bool.false_eq_true, if_false]
      walk_at "rd"
      refine ⟨ar, _, rfl, .inl (SqL.of ha5), rfl, ?_⟩
      rw [opn_len]
      have h100 : ¬ (V.int (zs.length : Int) = V.int 100) := fun z => by have := V.int.inj z; omega
      simp only [h100, decide_false, Bool.false_eq_true, if_false]
      refine ⟨sn, _, rfl, DPut.k (k := (Sum.inr n : Key)) hs5 (by rw [kvs_len]; omega), ?_⟩
      rw [put_new _ _ _ _ hnn]
      generalize hG : upd H5 sn _ = H6
      obtain ⟨k6, e6⟩ := gen_chg hG
      clear hG
      have ha6 := k6 _ _ ha5 hsa.symm
      refine ⟨.inl ⟨rfl, _, SqL.of ha6⟩, ar, _, _, rfl, rfl, ha6, by rw [opn_len]; omega, ?_⟩
      generalize hG : upd H6 ar _ = H7
      obtain ⟨k7, e7⟩ := gen_chg hG
      clear hG
      refine ⟨(c, n) :: zs, .nil, seen ++ [n], _, _, _, fun b o e => k7 _ _ (k6 _ _ (k35 _ _ (k3 _ _ e)) (ne_of_none e snH)) (ne_of_none e arH), ?_, by rw [e7, opn_cons], hr2, ?_, by rw [List.length_append, List.length_singleton]; omega, rfl⟩
      · rw [k7 _ _ e6 hsa]
        congr 3
        funext m; split <;> rfl
      · have : pls ((true, n) :: f.erow.drop (i + 1)) = n :: pls (f.erow.drop (i + 1)) := rfl
        rw [this] at hn
        rw [List.append_assoc]; exact hn
    | false =>
      obtain ⟨l, zs', rfl, hr2⟩ := hr
      refine ite2 (fun h => absurd (by simpa using h) p45) fun _ => ?_
      walk_at "rd"
      rw [o_rU]
      walk_at "rd"
      refine ⟨ar, _, rfl, SqL.of ha5, fun p1 hp1 => ?_⟩
      rw [opn_cons, cut_last]
      generalize hG : upd H5 p1 _ = H6
      obtain ⟨k6, e6⟩ := gen_new hp1 hG
      clear hG
      refine ⟨by show 1 ≤ sizeLine; omega, fun p2 hp2 => ?_⟩
      generalize hG : upd H6 p2 _ = H7
      obtain ⟨k7, e7⟩ := gen_new hp2 hG
      clear hG
      have hso : PyData.strOk n = true := strOk_of hie
      refine ⟨.list [.str n], .list [.str n], .lst (SqL.of (k7 _ _ e6)) (.cons (.str n) .nil), .lst (SqL.of e7) (.cons (.str n) .nil), ?_, ?_, by simp [PyData.depth, PyData.depthAll], ?_⟩
      · simp [PyData.canLay0, PyData.canLayAll0, hso]
      · simp [PyData.canLay0, PyData.canLayAll0, hso]
      · have hv : PyData.eqv (.list [.str n]) (.list [.str n]) = true := by simp [PyData.eqv, PyData.eqvAll]
        rw [hv]
        walk_at "rd"
        simp only [Bool.not_true, Bool.false_eq_true, if_false]
        have k57 : Kp H5 H7 := fun b o e => k7 _ _ (k6 _ _ e)
        have ha7 := k57 _ _ ha5
        rw [opn_cons] at ha7
        refine ⟨.inl ⟨rfl, _, SqL.of ha7⟩, ar, _, .str n, rfl, rfl, ha7, by simp, ?_⟩
        rw [List.dropLast_concat]
        generalize hG : upd H7 ar _ = H8
        obtain ⟨k8, e8⟩ := gen_chg hG
        clear hG
        refine ⟨zs', _, seen, _, _, _, fun b o e => k8 _ _ (k57 _ _ (k35 _ _ (k3 _ _ e))) (ne_of_none e arH), k8 _ _ (k57 _ _ hs5) hsa, e8, hr2, hn, by omega, rfl⟩
  · rintro σ H3 ⟨zs, c, seen, x, y, z, k3, hs3, ha3, hr, hn, hsl, rfl⟩
    rw [List.length_map, List.drop_length] at hr
    obtain ⟨rfl, rfl⟩ := hr
    walk_at "rd"
    rw [o_tru]
    walk_at "rd"
    refine ⟨false, .inl ⟨_, SqL.of ha3, rfl⟩, ?_⟩
    simpa using q H3 k3
end
end Tw
set_option Elab.async false
set_option linter.all false
set_option maxRecDepth 100000
set_option maxHeartbeats 4000000
/-! len(set(t)), t a tuple of texts, however many -/
namespace Tw
open PySem PySem.Spec PyProof.Rows L2
/-- how many unlike ones stand among the first i -/
def dcnt (xs : List Str) : Nat → Nat
  | 0 => 0
  | i + 1 => dcnt xs i + if (xs.take i).any (· == xs.getD i Str.empty) then 0 else 1
theorem dcnt_le (xs : List Str) : ∀ i, dcnt xs i ≤ i
  | 0 => Nat.le_refl _
  | i + 1 => by
    have := dcnt_le xs i
    unfold dcnt
    split <;> omega
theorem dcnt_nodup {xs : List Str} (h : xs.Nodup) : ∀ i, i ≤ xs.length → dcnt xs i = i
  | 0, _ => rfl
  | i + 1, hi => by
    unfold dcnt
    have hlt : i < xs.length := hi
    have e : xs.getD i Str.empty = xs[i] := by rw [List.getD_eq_getElem?_getD, List.getElem?_eq_getElem hlt]; rfl
    have no : ((xs.take i).any fun k => k == xs.getD i Str.empty) = false := by
      rw [List.any_eq_false]
      intro x hx hb
      rw [e] at hb
      have e2 : x = xs[i] := beq_iff_eq.mp hb
      obtain ⟨j, hj, e3⟩ := List.mem_take_iff_getElem.mp hx
      have := (List.getElem_inj h).mp (e3.trans e2)
      omega
    rw [no, dcnt_nodup h i (by omega)]
    rfl
section
variable {prog : Program} {w : World} {A : Around} {R : Result → Shared → Prop} {I : Addr} {fp wr : List Addr} {G : Array GenState → Array GenState → Prop} {n : Nat} {P : Nat → Value → Prop} {St : Nat → Shared → Prop}
abbrev SetUpTo (prog : Program) (w : World) (h : Heap) (S : Addr) (xs : List Str) (i : Nat) : Prop := h.SetOf (PySem.strKind prog w) S (fun k => (xs.take i).any (· == k)) (dcnt xs i)
theorem SetUpTo.heap {h h' : Heap} {S : Addr} {xs : List Str} {i : Nat} (q : SetUpTo prog w h S xs i) (k : ∀ o, h.get? S = some o → h'.get? S = some o) : SetUpTo prog w h' S xs i := by
  obtain ⟨o, es, ep, t, ho, rest⟩ := q
  exact ⟨o, es, ep, t, k o ho, rest⟩
theorem take_any {xs : List Str} {i : Nat} (h : i < xs.length) (k : Str) : ((xs.take i).any (· == k) || decide (k = xs.getD i Str.empty)) = (xs.take (i + 1)).any (· == k) := by
  have e : xs.getD i Str.empty = xs[i] := by rw [List.getD_eq_getElem?_getD, List.getElem?_eq_getElem h]; rfl
  rw [List.take_add_one, List.getElem?_eq_getElem h, List.any_append, e]
  congr 1
  by_cases z : k = xs[i]
  · subst z; simp
  · have z2 : ¬ xs[i] = k := fun y => z y.symm
    simp [z, z2]
theorem set_loop (W : WalksS prog w A.in1 I fp wr G n P St) (S : Addr) (hSf : S ∉ fp) (xs : List Str) (hsz : xs.length = n) (hn : n < 4000) (hval : ∀ i v, P i v → ∃ t, v = .str (xs.getD i Str.empty) t) :
    ∀ (k i : Nat) (s : Shared), n - i = k → i ≤ n → St i s → SetUpTo prog w s.heap S xs i → (∀ s', Moved (S :: wr) G s s' → SetUpTo prog w s'.heap S xs n → R (.ok (.ret .none)) s') →
      codeAny (model prog w) A (.builtin "set.update.loop" ⟨[.ref S, .ref I], []⟩) R s := by
  have hSw : S ∉ wr := fun h => hSf (W.sub _ h)
  intro k
  induction k with
  | zero =>
    intro i s hk hi hst hS hR
    obtain rfl : i = n := by omega
    refine codeAny_builtin F.entry_set_update_loop ?_
    rw [Around.under_plainId F.plain_set_update_loop _]
    show wpAny _ A.in1 (pyNext (.ref I) >>= _) _ _ s
    refine wpAny_bind (W.done s _ _ hst fun s' hm => ?_)
    show wpAny _ A.in1 (ret Value.none) _ _ s'
    exact wpAny_pure (hR s' (hm.mono fun b hb => List.mem_cons_of_mem _ hb) (hS.heap fun o ho => hm.heap S o hSw ho))
  | succ k ih =>
    intro i s hk hi hst hS hR
    have hlt : i < n := by omega
    refine codeAny_builtin F.entry_set_update_loop ?_
    rw [Around.under_plainId F.plain_set_update_loop _]
    show wpAny _ A.in1 (pyNext (.ref I) >>= _) _ _ s
    refine wpAny_bind (W.item i s _ _ hlt hst fun v s' hP hst' hm => ?_)
    obtain ⟨t, rfl⟩ := hval i v hP
    have hS1 := hS.heap fun o ho => hm.heap S o hSw ho
    show wpAny _ A.in1 (holding [Value.str (xs.getD i Str.empty) t] (setAdd S (.str (xs.getD i Str.empty) t)) >>= _) _ _ s'
    refine wpAny_bind (wpAny_holding ?_)
    unfold setAdd
    refine wpAny_holding (wpAny_bind ((PySem.strKind prog w).pyHash (k := xs.getD i Str.empty) (strKind_is _ _ _ _) ?_))
    refine wpAny_setAddHashed_of (knd := PySem.strKind prog w) (s := { s' with toks := s'.toks + 1 }) (strKind_is _ _ _ _) rfl hS1 (by have := dcnt_le xs i; unfold scanBound; omega) fun h' hsb hS2 => ?_
    have hS3 : SetUpTo prog w h' S xs (i + 1) := by
      refine SetOf_congr hS2 (fun k => take_any (by omega) k) ?_
      show (if (xs.take i).any (· == xs.getD i Str.empty) then dcnt xs i else dcnt xs i + 1) = dcnt xs (i + 1)
      conv => rhs; unfold dcnt
      split <;> rfl
    have keep : ∀ b o, b ≠ S → s'.heap.get? b = some o → h'.get? b = some o := fun b o hb e => by rw [hsb.2 b hb]; exact e
    refine wpAny_pure ⟨plainId_quiet F.plain_set_update_loop _, ih (i + 1) _ (by omega) hlt (W.frame _ s' _ _ hst' (Nat.le_succ _) fun b hb o e => keep b o (fun h => hSf (h ▸ hb)) e) hS3 fun s'' hm2 hS4 => ?_⟩
    exact hR s'' (Moved.trans W.gtrans ((hm.mono fun b hb => List.mem_cons_of_mem _ hb).then_heap (Nat.le_succ _) fun b o hb e => keep b o (fun h => hb (by rw [h]; exact List.mem_cons_self)) e) hm2) hS4
end
section
variable {prog : Program} {w : World} {A : Around} {E : Value → Shared → Prop} {s : Shared}
/-- an empty set, as it is made -/
abbrev bareSet (led : Bool) : Obj := { cls := .type "set", dict := none, data := .set #[] 0 (.fresh 0 0 led) }
theorem set_init {led : Bool} {l : Addr} {items : Array Value} {xs : List Str} {A : Around} (hh : A.handled = none) (hl : s.heap.IsTuple l items) (hi : StrsAre items.toList xs) (hn : xs.length < 4000) {Q : PySem.Fin → Shared → Prop}
    (h : ∀ (h' : Heap) (tk : Nat), SetUpTo prog w h' s.heap.objs.size xs xs.length → (∀ b o, b < s.heap.objs.size → s.heap.get? b = some o → h'.get? b = some o) → Q (.done (.ret .none)) { s with heap := h', toks := tk }) :
    wpAny (model prog w) A (Builtin.«set.__init__» ⟨[.ref s.heap.objs.size, .ref l], []⟩) Q E { s with heap := s.heap.push (bareSet led) } := by
  have hT : (s.heap.push (bareSet led)).IsTuple l items := by
    obtain ⟨o, ho, hc, n, hd⟩ := hl
    exact ⟨o, Heap.get?_push_of_some _ ho, hc, n, hd⟩
  have hTk := hT
  obtain ⟨ol, hol, hcl, nl, hdl⟩ := hT
  obtain ⟨c1, c2, c3, c4⟩ := ol
  simp only at hcl hdl
  subst hcl; subst hdl
  have q1 := PySem.F.sub_tuple_set
  have q2 := PySem.F.sub_tuple_frozenset
  have q3 : (Value.type "tuple" == Value.type "dict") = false := by decide
  have hS : (s.heap.push (bareSet led)).get? s.heap.objs.size = some (bareSet led) := Heap.get?_push_size _ rfl
  unfold Builtin.«set.__init__» noKeywords Builtin.Frozenset.updateFrom
  generalize hPI : pyIter = PI
  wp_walk
  subst hPI
  refine wpAny_pyIter_tuple hTk ?_
  refine wpAny_bind (wpAny_runValue ?_)
  have hlS : l < s.heap.objs.size := by
    obtain ⟨o, ho, _⟩ := hl
    exact Heap.lt_size ho
  have ne1 : l ≠ (s.heap.push (bareSet led)).objs.size := by rw [Heap.size_push]; exact Nat.ne_of_lt (Nat.lt_succ_of_lt hlS)
  have ne2 : s.heap.objs.size ∉ [(s.heap.push (bareSet led)).objs.size, l] := by
    rw [Heap.size_push]
    intro hm
    rcases List.mem_cons.mp hm with e | hm
    · exact absurd e (Nat.ne_of_lt (Nat.lt_succ_self _))
    · exact absurd (List.mem_singleton.mp hm) (Nat.ne_of_gt hlS)
  have hsz : xs.length = items.size := by rw [← StrsAre.len_eq hi, Array.length_toList]
  refine set_loop ((Walks.tuple (by simp [hh]) _ l ne1 items).toS) s.heap.objs.size ne2 xs hsz (by rw [← hsz]; exact hn) (fun i v hv => SS.strs_at hi i v (by rw [Array.getElem?_toList]; exact hv)) (items.size - 0) 0 _ (by omega) (Nat.zero_le _) ⟨⟨_, Heap.get?_push_size _ rfl, rfl, rfl⟩, hTk.push _⟩ ?_ ?_
  ·
    exact SetOf_congr ((PyProof.Rows.setObjOf_fresh (knd := PySem.strKind prog w) led).setOf (Heap.get?_push_of_some _ hS) (by unfold scanBound; omega)) (fun _ => rfl) rfl
  ·
    intro s' hm hS'
    obtain ⟨h', g', d', tk', os'⟩ := s'
    obtain rfl : g' = s.gens := hm.gens
    obtain rfl : d' = s.drawn := hm.drawn
    obtain rfl : os' = s.os := hm.os
    show wpAny _ _ _ _ _ _
    refine wpAny_pure ?_
    show wpAny _ _ (ret Value.none) _ _ _
    refine wpAny_pure (h h' tk' (by rw [hsz]; exact hS') fun b o hb e => ?_)
    refine hm.heap b o (fun hmem => ?_) (Heap.get?_push_of_some _ (Heap.get?_push_of_some _ e))
    rcases List.mem_cons.mp hmem with e1 | hmem
    · exact absurd e1 (Nat.ne_of_lt hb)
    · have e2 := List.mem_singleton.mp hmem
      rw [Heap.size_push] at e2
      exact absurd e2 (Nat.ne_of_lt (Nat.lt_succ_of_lt hb))
theorem call_set_tup {l : Addr} {items : Array Value} {xs : List Str} {Q : Value → Shared → Prop} (hh : A.handled = none) (hl : s.heap.IsTuple l items) (hi : StrsAre items.toList xs) (hn : xs.length < 4000)
    (h : ∀ (h' : Heap) (tk : Nat), SetUpTo prog w h' s.heap.objs.size xs xs.length → (∀ b o, b < s.heap.objs.size → s.heap.get? b = some o → h'.get? b = some o) → Q (.ref s.heap.objs.size) { s with heap := h', toks := tk }) :
    wpAny (model prog w) A (call (.type "set") [.ref l]) Q E s := by
  obtain ⟨mc, mt, hmro⟩ := PySem.F.called_set.mro
  have a1 := PySem.F.called_set.made
  have a2 := PySem.F.called_set.sub
  have a3 := PySem.F.called_set.notType
  have a4 := PySem.F.called_set.canCreate
  have a5 := PySem.F.typeCall_set_1 (.ref l)
  refine wpAny_call (codeAny_of_tree ?_)
  show wpAny _ _ (callAny (.type "set") _) _ _ _
  refine wpAny_pure ⟨Code.quiet_builtin _ (by decide +kernel), codeAny_builtin PySem.F.entry_type_call ?_⟩
  rw [Around.under_plain (weight_type_call_type "set" [.ref l] []) rfl]
  repeat (any_goals (first | assumption | wp_step))
  refine codeAny_mono (code_set_new_1 (.ref l) (E := E) (Q₁ := fun obj s₁ => ∃ led : Bool, obj = .ref s.heap.objs.size ∧ s₁ = { s with heap := s.heap.push (bareSet led) }) fun led => ⟨led, rfl, rfl⟩) fun r s₁ hr => ?_
  rcases r with e | (_ | _ | _ | obj)
  all_goals first | exact hr | exact hr.elim | skip
  obtain ⟨led, rfl, rfl⟩ := hr
  have hS : (s.heap.push (bareSet led)).get? s.heap.objs.size = some (bareSet led) := Heap.get?_push_size _ rfl
  have hT : Shared.TypeIs { s with heap := s.heap.push (bareSet led) } (.ref s.heap.objs.size) "set" := ⟨_, hS, rfl⟩
  have b1 := PySem.F.called_set.init.lookup
  have b2 := PySem.F.called_set.init.bind (.ref s.heap.objs.size)
  repeat (any_goals (first | assumption | wp_step))
  refine codeAny_mono (codeAny_call_builtin (R := wants (fun r s₂ => r = .none ∧ ∃ h' tk, s₂ = { s with heap := h', toks := tk } ∧ SetUpTo prog w h' s.heap.objs.size xs xs.length ∧ (∀ b o, b < s.heap.objs.size → s.heap.get? b = some o → h'.get? b = some o)) E)
    PySem.F.called_set.init.plain PySem.F.entry_set_init (check_set_init_1 hT ?_)) fun r₂ s₂ hr₂ => ?_
  · exact set_init (by simp [hh]) hl hi hn fun h' tk hS' hk => ⟨rfl, h', tk, rfl, hS', hk⟩
  · rcases r₂ with e | (_ | _ | _ | r)
    all_goals first | exact hr₂ | exact hr₂.elim | skip
    obtain ⟨rfl, h', tk, rfl, hS', hk⟩ := hr₂
    repeat (any_goals (first | assumption | wp_step))
    exact h _ _ hS' hk
end
section
variable {X : Cx}
/-- len(set(t)) -/
def tLenSetT (K : PySem.W.Frag) (ta : TE) : TE := fun σ H Q => ta σ H fun x H1 => ∃ (l : Addr) (xs : List Str), x = .ref l ∧ SqT K H1 l (xs.map V.str) ∧ xs.length < 4000 ∧ Q (.int (dcnt xs xs.length : Nat)) H1
theorem pe_lenSetT {a : Expr} {ta : TE} {p p2 q pos : Pos} (hm : X.mg "len" = none) (hm2 : X.mg "set" = none) (ha : PE X a ta) (hc : X.calm = true := by rfl) (hg : Gl X "len" := by rfl) (hg2 : Gl X "set" := by rfl)
    (na : starEach [a] X.env = (false, eval a X.env) :: starEach [] X.env := by rfl) : PE X (.Call (.Name "len" p) [.Call (.Name "set" p2) [a] [] q] [] pos) (tLenSetT X.K ta) := by
  refine ⟨fun pins s σ H Q I h => ?_⟩
  refine Call_ (ld_blt I hg hm boot_len (callWith_builtin1 (args_cons ?_ rfl) rfl rfl))
  refine Call_ (ld_blt I hg2 hm2 boot_set (callWith_type1 (args_cons (thn (ha.run pins s σ H _ I h) fun v s1 ⟨x, H1, I1, r1, l, xs, ex, hq, hn, q1⟩ => args_nil ?_) na) na rfl))
  subst ex
  cases r1
  obtain ⟨its, r, pl, _⟩ := I1.tuple hq
  refine call_set_tup (I1.ok.hd hc) pl (by simpa using strsAre_of r) hn fun h' tk hS hk => args_nil ?_
  obtain ⟨o, es, ep, t, ho, hex, hd, _, _, _, hf, hcount⟩ := hS
  have I2 := I1.kept (t' := tk) fun b o e => hk b o (Heap.lt_size e) e
  refine call_len_set ho hex hd hf ?_ ⟨.int (dcnt xs xs.length : Nat), H1, I2.tok _, ⟨_, by rw [hcount]⟩, q1⟩
  rw [hcount]
  have := dcnt_le xs xs.length
  omega
end
section
variable {X : Cx}
/-- what a for walks: a list or a tuple -/
def iSeq (K : PySem.W.Frag) (te : TE) : TI := fun σ H R => te σ H fun x H1 => ∃ a, x = .ref a ∧ (((∃ xs, SqL K H1 a xs) ∧ R (Itl K a) H1) ∨ ((∃ xs, SqT K H1 a xs) ∧ R (Itt K a) H1))
theorem pi_seq {tg l : Expr} {te : TE} (hl : PE X l te) : PI X tg l (iSeq X.K te) := by
  refine ⟨fun pins s σ H R I h => thn (hl.run pins s σ H _ I h) fun v s1 ⟨x, H1, I1, r1, a, e, q⟩ => ?_⟩
  subst e
  cases r1
  have own : ∀ b ∈ [s1.heap.objs.size], b = s1.heap.objs.size := fun b hb => List.mem_singleton.mp hb
  rcases q with ⟨⟨xs, hq⟩, q⟩ | ⟨⟨xs, hq⟩, q⟩
  · obtain ⟨its, rv, p, _⟩ := I1.list hq
    refine wpAny_pyIter_list p.isList ⟨s1.heap.objs.size, [s1.heap.objs.size], _, _, H1, rfl, I1.kept (t' := s1.toks) fun b o e => Heap.get?_push_of_some _ e, turn_list a _, ⟨_, Heap.get?_push_size _ rfl, rfl, rfl⟩, fun b hb => ?_, q⟩
    rw [own b hb]
    exact I1.fpOk (Nat.le_refl _) (I1.hok.fresh (Nat.le_refl _))
  · obtain ⟨its, rv, p, _⟩ := I1.tuple hq
    refine wpAny_pyIter_tuple (show s1.heap.IsTuple a its.toArray from p) ⟨s1.heap.objs.size, [s1.heap.objs.size], _, _, H1, rfl, I1.kept (t' := s1.toks) fun b o e => Heap.get?_push_of_some _ e, turn_tuple a _, ⟨_, Heap.get?_push_size _ rfl, rfl, rfl⟩, fun b hb => ?_, q⟩
    rw [own b hb]
    exact I1.fpOk (Nat.le_refl _) (I1.hok.fresh (Nat.le_refl _))
end
end Tw
set_option Elab.async false
set_option linter.all false
set_option maxRecDepth 100000
set_option maxHeartbeats 4000000
/-! the wood of a row -/
namespace Tw
open PySem PySem.Spec PyProof.Rows L2 TL
local macro_rules | `(tactic| walk_at "rd") => `(tactic| try simp only [o_op, o_un, o_var, o_c, o_cb, o_call, o_cons, o_nil, o_tup, o_lst, o_I0, o_I, o_int1, o_intb, o_abs, o_test, o_b, o_not, o_and, o_or, o_andV, o_orV, o_notV, o_ifE, o_isN, o_notN, o_eq, o_ne, o_seq, o_next, o_asg, o_name, o_sub, o_par, o_par3, o_drop, o_ret, o_retN, o_ifS, o_sl, o_noPart, o_part, o_bm, o_bm0, o_m0, o_m1, o_dget, o_dput, o_din, o_dnotin, o_listKeys, e_bl, e_int, e_str, e_some, e_two, e_three, o_for, o_lc, o_iList, o_iTup, o_iRng1, e_int1, e_ref, o_yes, o_wipe0, o_wipe1, o_disp, o_dnew, o_pairs0, o_pairs1, o_lock, o_keysM, o_gtup, o_gcons, o_gnil, true_and, if_pos, List.getElem?_cons_zero, List.getElem?_cons_succ, List.set_cons_zero, List.set_cons_succ, List.append_nil])
def t_unchecked_wood_b1 (K : PySem.W.Frag) : TS :=
  (tIfS (tTest (tOp rEq (tOp rIxS (tVar 3) (tC (.int 0))) (tC (.str "+")))) (tDrop (tBM K "list" rAppend (tVar 2) (tCons (tCB (rLenSeq K) (tCons (tVar 1) tNil)) tNil))) (tSeq (tAsg (tBM0 K "list" rPop (tVar 2)) (gName 4))
  (tAsg (tLst (tCons (tTup (tCons (L2.tSl rSlS (tVar 3) (tPart (tC (.int 1))) tNoPart) (tCons (tCB (rTupleOf K) (tCons (L2.tSl (rSlL K) (tVar 1) (tPart (tVar 4)) tNoPart) tNil)) tNil))) tNil)) (gFrom (tVar 1) (tVar 4)))))
def t_unchecked_wood (K : PySem.W.Frag) : TS :=
  (tSeq (tAsg (tLst tNil) (gName 1))
  (tSeq (tAsg (tLst tNil) (gName 2))
  (tSeq (tFor (iSeq K (tVar 0)) (gName 3)
  (t_unchecked_wood_b1 K))
  (tRet (tCB (rTupleOf K) (tCons (tVar 1) tNil))))))
section
variable {K : PySem.W.Frag} {σ : L2.St} {H : Hp} {te : TE} {D : Ends} {t : TS} {g : TG}
theorem o_seqI {R : It → Hp → Prop} : iSeq K te σ H R = te σ H fun x H1 => ∃ a, x = .ref a ∧ (((∃ xs, SqL K H1 a xs) ∧ R (Itl K a) H1) ∨ ((∃ xs, SqT K H1 a xs) ∧ R (Itt K a) H1)) := rfl
theorem fb_seq {a : Addr} {xs : List V} {H0 : Hp} (h00 : SqL K H0 a xs ∨ SqT K H0 a xs) (Pv : Nat → L2.St → Hp → Prop) (h0 : Pv 0 σ H) (hl : ∀ i σ H', i ≤ xs.length → Pv i σ H' → (SqL K H0 a xs → SqL K H' a xs) ∧ (SqT K H0 a xs → SqT K H' a xs))
    (hs : ∀ i x σ H, xs[i]? = some x → Pv i σ H → g x σ H fun σ2 H2 => t { D with nx := Pv (i + 1), ct := Pv (i + 1), bk := D.nx } σ2 H2) (hd : ∀ σ H, Pv xs.length σ H → D.nx σ H) :
    ((∃ xs, SqL K H a xs) ∧ ForB (Itl K a) g t D σ H) ∨ ((∃ xs, SqT K H a xs) ∧ ForB (Itt K a) g t D σ H) := by
  rcases h00 with h | h
  · have hH := (hl 0 σ H (Nat.zero_le _) h0).1 h
    exact .inl ⟨⟨_, hH⟩, fb_list Pv h0 (fun i σ H' hi p => (hl i σ H' hi p).1 h) hs hd⟩
  · have hH := (hl 0 σ H (Nat.zero_le _) h0).2 h
    exact .inr ⟨⟨_, hH⟩, fb_tup Pv h0 (fun i σ H' hi p => (hl i σ H' hi p).2 h) hs hd⟩
end
/-- all trees that are done, whatever is open -/
def flat : List (Fo × Str) → Fo
  | [] => .nil
  | z :: zs => (flat zs).app z.1
def begs : List (Fo × Str) → List V
  | [] => []
  | z :: zs => begs zs ++ [.int ((flat (z :: zs)).tops.length : Nat)]
theorem begs_len : ∀ zs, (begs zs).length = zs.length
  | [] => rfl
  | z :: zs => by rw [begs, List.length_append, begs_len zs]; rfl
theorem o_from {to ti : TE} {v : V} {σ : L2.St} {H : Hp} {Q : L2.St → Hp → Prop} : gFrom to ti v σ H Q = to σ H fun o H1 => ti σ H1 fun i H2 => ∃ (l b : Addr) (xs ys : List V) (a : Int), o = .ref l ∧ i = .int a ∧ v = .ref b ∧ H2 l = some (.lst xs) ∧ H2 b = some (.lst ys) ∧ l ≠ b ∧ 0 ≤ a ∧ a ≤ xs.length ∧ xs.length + ys.length ≤ sizeLine ∧ Q σ (upd H2 l (.lst (xs.take a.toNat ++ ys))) := rfl
section
variable {K : PySem.W.Frag}
theorem sql_kp {H H' : Hp} {a : Addr} {xs : List V} (h : SqL K H a xs) (k : Kp H H') : SqL K H' a xs := by
  rcases h with (h | ⟨o, h⟩) | h
  · exact .inl (.inl (k _ _ h))
  · exact .inl (.inr ⟨o, k _ _ h⟩)
  · exact .inr h
theorem sq_kp {H H' : Hp} {a : Addr} {xs : List V} (h : SqL K H a xs ∨ SqT K H a xs) (k : Kp H H') : SqL K H' a xs ∨ SqT K H' a xs := by
  rcases h with h | h
  · exact .inl (sql_kp h k)
  · exact .inr (Tk.kp k _ _ h)
theorem sq_two {H H' : Hp} {a : Addr} {xs : List V} (_ : SqL K H a xs ∨ SqT K H a xs) (k : Kp H H') : (SqL K H a xs → SqL K H' a xs) ∧ (SqT K H a xs → SqT K H' a xs) := ⟨fun h => sql_kp h k, fun h => Tk.kp k _ _ h⟩
theorem Rp.app {H : Hp} {v1 v2 : List V} {f g : Fo} (h1 : Rp K H v1 f) (h2 : Rp K H v2 g) : Rp K H (v1 ++ v2) (f.app g) := by
  induction h1 with
  | nil => exact h2
  | cons a b c _ _ ih => exact .cons a b c ih
theorem Rp.split {H : Hp} : ∀ {vs : List V} {f g : Fo}, Rp K H vs (f.app g) → ∃ v1 v2, vs = v1 ++ v2 ∧ Rp K H v1 f ∧ Rp K H v2 g
  | vs, .nil, g, h => ⟨[], vs, rfl, .nil, h⟩
  | _, .cons n ks r, g, .cons a b c d => by
    obtain ⟨v1, v2, e, h1, h2⟩ := Rp.split (f := r) d
    exact ⟨_ :: v1, v2, by rw [e]; rfl, .cons a b c h1, h2⟩
theorem pure_unchecked_wood (vs : List V) (H : Hp) (Q : VK) (E : XK) (h : sp_unchecked_wood K vs H Q E) : t_unchecked_wood K { nx := fun _ H' => Q .non H', rt := Q } (startN 5 vs) H := by
  obtain ⟨a, f, rfl, ha, hf, q⟩ := h
  show t_unchecked_wood K _ [some (.ref a), none, none, none, none] H
  unfold t_unchecked_wood
  have hz := sizeLine_eq
  have hsz := hf.sz
  walk_at "rd"
  refine ⟨Nat.zero_le _, fun dn hdn => ?_⟩
  generalize hG : upd H dn _ = H1
  obtain ⟨k1, e1⟩ := gen_new hdn hG
  clear hG
  refine ⟨Nat.zero_le _, fun bn hbn => ?_⟩
  generalize hG : upd H1 bn _ = H2
  obtain ⟨k2, e2⟩ := gen_new hbn hG
  clear hG
  have k02 : Kp H H2 := fun b o e => k2 _ _ (k1 _ _ e)
  have dnbn : dn ≠ bn := ne_of_none e1 hbn
  have dnH : H dn = none := hdn
  have bnH : H bn = none := Kp.free k1 hbn
  rw [o_seqI]
  walk_at "rd"
  rw [Fo.row_erow, List.map_map] at ha
  have hlen : f.erow.length = 2 * f.nm.length := by rw [← row_len f, Fo.row_erow, List.length_map]
  refine fb_seq (xs := f.erow.map (V.str ∘ en)) (H0 := H) ha (fun i σ H3 => ∃ zs c ws x y, Kp H H3 ∧ H3 dn = some (.lst ws) ∧ Rp K H3 ws ((flat zs).app c) ∧ H3 bn = some (.lst (begs zs)) ∧ Runs 1000 (f.erow.drop i) zs c f ∧ ws.length ≤ i ∧ i ≤ f.erow.length ∧ zs.length ≤ i ∧
    σ = [some (.ref a), some (.ref dn), some (.ref bn), x, y]) ?_ ?_ ?_ ?_
  · exact ⟨[], .nil, [], _, _, k02, k2 _ _ e1, .nil, e2, runs_all f (by have := Fo.dp_le f; omega), Nat.le_refl _, Nat.zero_le _, Nat.zero_le _, rfl⟩
  · rintro i σ H3 _ ⟨zs, c, ws, x, y, k3, _⟩
    exact sq_two ha k3
  · rintro i v σ H3 hx ⟨zs, c, ws, x, y, k3, hd3, rp, hb3, hr, hwl, hi, hzl, rfl⟩
    rw [List.getElem?_map, Option.map_eq_some_iff] at hx
    obtain ⟨e, he, rfl⟩ := hx
    rw [drop_at he] at hr
    have hi2 := (List.getElem?_eq_some_iff.mp he).1
    have hie : IsName e.2 := hf.nms _ (erow_nm f e (List.mem_of_getElem? he))
    have h8 := hie.eight
    unfold t_unchecked_wood_b1
    walk_at "rd"
    refine o_ixS (by rw [en_len]; omega) (en_at0 e) ⟨rfl, ?_⟩
    obtain ⟨b, n⟩ := e
    cases b with
    | true =>
      obtain ⟨hlt, hr2⟩ := hr
      refine ite2 (fun _ => ?_) fun h => absurd (by simpa using p43) h
      refine ⟨.inl ⟨rfl, _, SqL.of hb3⟩, dn, _, rfl, .inl (SqL.of hd3), bn, _, _, rfl, rfl, hb3, by rw [begs_len]; omega, ?_⟩
      generalize hG : upd H3 bn _ = H4
      obtain ⟨k4, e4⟩ := gen_chg hG
      clear hG
      refine ⟨(c, n) :: zs, .nil, ws, _, _, fun b o e => k4 _ _ (k3 _ _ e) (ne_of_none e bnH), k4 _ _ hd3 dnbn, ?_, ?_, hr2, by omega, by omega, by rw [List.length_cons]; omega, rfl⟩
      · rw [Fo.app_nil]
        exact rp.mono (Tk.but (.inl ⟨_, hb3⟩) k4)
      · rw [e4, begs, rp.len]; rfl
    | false =>
      obtain ⟨l, zs', rfl, hr2⟩ := hr
      refine ite2 (fun h => absurd (by simpa using h) p45) fun _ => ?_
      walk_at "rd"
      refine ⟨.inl ⟨rfl, _, SqL.of hb3⟩, bn, _, .int ((flat ((l, n) :: zs')).tops.length : Nat), rfl, rfl, hb3, by rw [begs]; simp, ?_⟩
      rw [begs, List.dropLast_concat]
      generalize hG : upd H3 bn _ = H4
      obtain ⟨k4, e4⟩ := gen_chg hG
      clear hG
      have hd4 := k4 _ _ hd3 dnbn
      obtain ⟨v1, v2, rfl, rp1, rp2⟩ := rp.split
      have hb : ((flat ((l, n) :: zs')).tops.length : Nat) = v1.length := rp1.len.symm
      rw [hb]
      walk_at "rd"
      refine ⟨en (false, n), rfl, by rw [en_len]; omega, dn, _, rfl, SqL.of hd4, fun p1 hp1 => ?_⟩
      rw [en_cut1]
      have hc : cutV (v1 ++ v2) (some (v1.length : Int)) none = v2 := by
        unfold cutV
        rw [HT.sIx_none, HT.sIx_nat, List.length_append, Nat.min_eq_left (by omega)]
        simp
      rw [hc]
      generalize hG : upd H4 p1 _ = H5
      obtain ⟨k5, e5⟩ := gen_new hp1 hG
      clear hG
      refine ⟨p1, _, rfl, .inl ⟨SqL.of e5, fun p2 hp2 => ?_⟩⟩
      generalize hG : upd H5 p2 _ = H6
      obtain ⟨k6, e6⟩ := gen_new hp2 hG
      clear hG
      refine ⟨by show 2 ≤ sizeLine; omega, fun p3 hp3 => ?_⟩
      generalize hG : upd H6 p3 _ = H7
      obtain ⟨k7, e7⟩ := gen_new hp3 hG
      clear hG
      refine ⟨by show 1 ≤ sizeLine; omega, fun p4 hp4 => ?_⟩
      generalize hG : upd H7 p4 _ = H8
      obtain ⟨k8, e8⟩ := gen_new hp4 hG
      clear hG
      rw [o_from]
      walk_at "rd"
      have k48 : Kp H4 H8 := fun b o e => k8 _ _ (k7 _ _ (k6 _ _ (k5 _ _ e)))
      have hd8 := k48 _ _ hd4
      have dp4 : dn ≠ p4 := ne_of_none (k7 _ _ (k6 _ _ (k5 _ _ hd4))) hp4
      refine ⟨dn, p4, _, _, _, rfl, rfl, rfl, hd8, e8, dp4, by omega, by rw [List.length_append]; omega, by simp only [List.length_append, List.length_cons, List.length_nil] at hwl ⊢; omega, ?_⟩
      rw [Int.toNat_natCast, List.take_left]
      generalize hG : upd H8 dn _ = H9
      obtain ⟨k9, e9⟩ := gen_chg hG
      clear hG
      have t39 : Tk K H3 H9 := ((Tk.but (.inl ⟨_, hb3⟩) k4).trans (Tk.kp k48)).trans (Tk.but (.inl ⟨_, hd8⟩) k9)
      have t69 : Tk K H6 H9 := (Tk.kp fun b o e => k8 _ _ (k7 _ _ e)).trans (Tk.but (.inl ⟨_, hd8⟩) k9)
      have t79 : Tk K H7 H9 := (Tk.kp k8).trans (Tk.but (.inl ⟨_, hd8⟩) k9)
      refine ⟨zs', _, _, _, _, fun b o e => k9 _ _ (k48 _ _ (k4 _ _ (k3 _ _ e) (ne_of_none e bnH))) (ne_of_none e dnH), e9, ?_, k9 _ _ (k48 _ _ e4) dnbn.symm, hr2, ?_, by omega, by simp only [List.length_cons] at hzl; omega, rfl⟩
      · rw [← Fo.app_assoc]
        exact Rp.app (rp1.mono t39) (.cons (t79 _ _ (SqT.of e7)) (t69 _ _ (SqT.of e6)) (rp2.mono t39) .nil)
      · simp only [List.length_append, List.length_cons, List.length_nil] at hwl ⊢; omega
  · rintro σ H3 ⟨zs, c, ws, x, y, k3, hd3, rp, hb3, hr, hwl, hi, hzl, rfl⟩
    rw [List.length_map, List.drop_length] at hr
    obtain ⟨rfl, rfl⟩ := hr
    walk_at "rd"
    refine ⟨dn, _, rfl, .inl ⟨SqL.of hd3, fun p hp => ?_⟩⟩
    generalize hG : upd H3 p _ = H4
    obtain ⟨k4, e4⟩ := gen_new hp hG
    clear hG
    exact q p H4 (fun b o e => k4 _ _ (k3 _ _ e)) ⟨ws, SqT.of e4, rp.mono (Tk.kp k4)⟩
end
end Tw
set_option Elab.async false
set_option linter.all false
set_option maxRecDepth 100000
set_option maxHeartbeats 4000000
/-! the wood of a row, the row of a wood -/
namespace Tw
open PySem PySem.Spec PyProof.Rows L2 TL
local macro_rules | `(tactic| walk_at "rd") => `(tactic| try simp only [o_op, o_un, o_var, o_c, o_cb, o_call, o_cons, o_nil, o_tup, o_lst, o_I0, o_I, o_int1, o_intb, o_abs, o_test, o_b, o_not, o_and, o_or, o_andV, o_orV, o_notV, o_ifE, o_isN, o_notN, o_eq, o_ne, o_seq, o_next, o_asg, o_name, o_sub, o_par, o_par3, o_drop, o_ret, o_retN, o_ifS, o_sl, o_noPart, o_part, o_bm, o_bm0, o_m0, o_m1, o_dget, o_dput, o_din, o_dnotin, o_listKeys, e_bl, e_int, e_str, e_some, e_two, e_three, o_for, o_lc, o_iList, o_iTup, o_iRng1, e_int1, e_ref, o_yes, o_wipe0, o_wipe1, o_disp, o_dnew, o_pairs0, o_pairs1, o_lock, o_keysM, o_gtup, o_gcons, o_gnil, true_and, if_pos, List.getElem?_cons_zero, List.getElem?_cons_succ, List.set_cons_zero, List.set_cons_succ, List.append_nil])
def t_wood_of (K : PySem.W.Frag) : TS :=
  (tSeq (tIfS (tNot (tB (tIsi K "tuple" (tVar 0)))) tNever tNext)
  (tSeq (tAsg (tCall (sp_u_bad_place K) [] E0 (tCons (tVar 0) tNil)) (gName 1))
  (tSeq (tIfS (tB (tNotN (tVar 1))) tNever tNext)
  (tRet (tCall (sp_unchecked_wood K) [] E0 (tCons (tVar 0) tNil))))))
def t_row_of_b1 (K : PySem.W.Frag) : TS :=
  (tSeq (tAsg (tBM0 K "list" rPop (tVar 2)) (gName 3))
  (tIfS (tB (tIsi K "str" (tVar 3))) (tDrop (tBM K "list" rAppend (tVar 1) (tCons (tVar 3) tNil))) (tSeq (tAsg (tVar 3) (gTup K 2 (gCons (gName 4) (gCons (gName 5) gNil))))
  (tSeq (tDrop (tBM K "list" rAppend (tVar 1) (tCons (tJoined [(tC (.str "+")), (tFmt (tVar 4))]) tNil)))
  (tSeq (tDrop (tBM K "list" rAppend (tVar 2) (tCons (tJoined [(tC (.str "-")), (tFmt (tVar 4))]) tNil)))
  (tDrop (tBM K "list" (rExtendT K) (tVar 2) (tCons (tRevT K (tVar 5)) tNil))))))))
def t_row_of (K : PySem.W.Frag) : TS :=
  (tSeq (tAsg (tLst tNil) (gName 1))
  (tSeq (tAsg (tCB (rListOf K) (tCons (tRevT K (tVar 0)) tNil)) (gName 2))
  (tSeq (tWhile (tTru K (tVar 2))
  (t_row_of_b1 K))
  (tRet (tCB (rTupleOf K) (tCons (tVar 1) tNil))))))
section
variable {K : PySem.W.Frag}
theorem sqt_ty {H : Hp} {a : Addr} {xs : List V} (h : SqT K H a xs) : TyX K H (.ref a) (.type "tuple") := by
  rcases h with (h | ⟨ob, h⟩) | ⟨o, its, n, h1, h2, _⟩
  · exact .base (.tup h)
  · exact .fTuple h
  · exact .kTuple h1 h2
theorem o_isiT {H : Hp} {Q : VK} {a : Addr} {xs : List V} (h : SqT K H a xs) (q : Q (.bl true) H) : rIsiB K "tuple" [.ref a, .ty "tuple"] H Q := ⟨_, "tuple", true, rfl, (sqt_ty h), by decide +kernel, q⟩
theorem sqt_noStr {H : Hp} {a : Addr} {xs : List V} (h : SqT K H a xs) : NoStr K H (.ref a) := ⟨"tuple", (sqt_ty h), by decide +kernel⟩
theorem pure_wood_of (vs : List V) (H : Hp) (Q : VK) (E : XK) (h : sp_wood_of K vs H Q E) : t_wood_of K { nx := fun _ H' => Q .non H', rt := Q } (startN 2 vs) H := by
  obtain ⟨a, f, rfl, ha, hf, q⟩ := h
  show t_wood_of K _ [some (.ref a), none] H
  unfold t_wood_of
  walk_at "rd"
  refine o_isiT ha ?_
  walk_at "rd"
  simp only [Bool.not_true, Bool.false_eq_true, if_false]
  refine ⟨a, f, rfl, ha, hf, fun H1 k1 => ?_⟩
  walk_at "rd"
  simp only [decide_true, Bool.not_true, Bool.false_eq_true, if_false]
  exact ⟨a, f, rfl, .inr (Tk.kp k1 _ _ ha), hf.ok, fun p H2 k2 hw => q p H2 (fun b o e => k2 _ _ (k1 _ _ e)) hw⟩
/-! ### row_of -/
theorem o_revT {te : TE} {σ : L2.St} {H : Hp} {Q : VK} : tRevT K te σ H Q = te σ H fun x H1 => ∃ a xs, x = .ref a ∧ SqT K H1 a xs ∧ ∀ p, H1 p = none → Q (.ref p) (upd H1 p (.tup xs.reverse)) := rfl
/-- what is still to be told: an end, or a tree -/
abbrev Td := Str ⊕ (Str × Fo)
def tdOut : Td → List Str
  | .inl s => [s]
  | .inr z => (Fo.cons z.1 z.2 .nil).row
inductive TdAt (K : PySem.W.Frag) (H : Hp) : List V → List Td → Prop where
  | nil : TdAt K H [] []
  | str {s : Str} {vs : List V} {ts : List Td} : TdAt K H vs ts → TdAt K H (.str s :: vs) (.inl s :: ts)
  | tree {t k : Addr} {n : Str} {kvs vs : List V} {ks : Fo} {ts : List Td} : SqT K H t [.str n, .ref k] → SqT K H k kvs → Rp K H kvs ks → TdAt K H vs ts → TdAt K H (.ref t :: vs) (.inr (n, ks) :: ts)
theorem TdAt.mono {H H' : Hp} (t : Tk K H H') {vs : List V} {ts : List Td} (h : TdAt K H vs ts) : TdAt K H' vs ts := by
  induction h with
  | nil => exact .nil
  | str _ ih => exact .str ih
  | tree a b c _ ih => exact .tree (t _ _ a) (t _ _ b) (c.mono t) ih
def trees : Fo → List Td
  | .nil => []
  | .cons n ks r => .inr (n, ks) :: trees r
theorem TdAt.of {H : Hp} {vs ws : List V} {f : Fo} {ts : List Td} (h : Rp K H vs f) (hw : TdAt K H ws ts) : TdAt K H (vs ++ ws) (trees f ++ ts) := by
  induction h with
  | nil => exact hw
  | cons a b c _ _ ih => exact .tree a b c ih
theorem trees_out : ∀ f : Fo, ((trees f).map tdOut).flatten = f.row
  | .nil => rfl
  | .cons n ks r => by
    have h : (trees (.cons n ks r)).map tdOut = (Fo.cons n ks .nil).row :: (trees r).map tdOut := rfl
    rw [h, List.flatten_cons, trees_out r]
    simp [Fo.row]
def TdOk : Td → Prop
  | .inl s => s.length ≤ 200
  | .inr z => (∀ m ∈ (Fo.cons z.1 z.2 .nil).nm, m.length ≤ 100)
theorem trees_ok : ∀ {f : Fo}, (∀ m ∈ f.nm, m.length ≤ 100) → ∀ t ∈ trees f, TdOk t
  | .cons n ks r, h, t, ht => by
    rcases List.mem_cons.mp ht with e | ht
    · subst e
      intro m hm
      have hm2 : m ∈ n :: (ks.nm ++ []) := hm
      rw [List.append_nil] at hm2
      rcases List.mem_cons.mp hm2 with e | hm2
      · exact h m (e ▸ List.mem_cons_self ..)
      · exact h m (List.mem_cons_of_mem _ (List.mem_append_left _ hm2))
    · exact trees_ok (fun m hm => h m (List.mem_cons_of_mem _ (List.mem_append_right _ hm))) t ht
theorem td_le (ts : List Td) : ts.length ≤ ((ts.map tdOut).flatten).length := by
  induction ts with
  | nil => exact Nat.le_refl _
  | cons t ts ih =>
    rw [List.map_cons, List.flatten_cons, List.length_append, List.length_cons]
    have : 1 ≤ (tdOut t).length := by
      cases t with
      | inl s => exact Nat.le_refl _
      | inr z => show 1 ≤ (Fo.plus z.1 :: _).length; rw [List.length_cons]; omega
    omega
theorem TdAt.len {H : Hp} {vs : List V} {ts : List Td} (h : TdAt K H vs ts) : vs.length = ts.length := by
  induction h with
  | nil => rfl
  | str _ ih => simp [ih]
  | tree _ _ _ _ ih => simp [ih]
theorem joined_two {c n : Str} {σ : L2.St} {H : Hp} {i : Nat} {Q : VK} (hs : σ[i]? = some (some (.str n))) (hc : c.length ≤ 1) (hn : n.length ≤ 100) (q : Q (.str (c ++ n)) H) : tJoined [tC (.str c), tFmt (tVar i)] σ H Q := by
  have hz := sizeLine_eq
  have e0 : Str.empty ++ c = c := str_ext (by rw [tl_app]; rfl)
  have l2 : (c ++ n).length = c.length + n.length := by rw [len_tl, tl_app, List.length_append, ← len_tl, ← len_tl]
  show ∃ y : Str, V.str c = .str y ∧ (Str.empty ++ y).length ≤ sizeLine ∧ _
  refine ⟨c, rfl, by rw [e0]; omega, .str n, hs, .inl ⟨n, rfl, by omega, n, rfl, ?_, ?_⟩⟩
  · rw [e0, l2]; omega
  · rw [e0]; exact q
def RowInv (K : PySem.W.Frag) (H : Hp) (a rn tn : Addr) (f : Fo) (m : Nat) (σ : L2.St) (H4 : Hp) : Prop :=
  ∃ xs ws ts x y z, Kp H H4 ∧ H4 rn = some (.lst (xs.map V.str)) ∧ H4 tn = some (.lst ws.reverse) ∧ TdAt K H4 ws ts ∧ xs ++ (ts.map tdOut).flatten = f.row ∧ (∀ t ∈ ts, TdOk t) ∧ m = ((ts.map tdOut).flatten).length ∧
    σ = [some (.ref a), some (.ref rn), some (.ref tn), x, y, z]
theorem pure_row_of (vs : List V) (H : Hp) (Q : VK) (E : XK) (h : sp_row_of K vs H Q E) : t_row_of K { nx := fun _ H' => Q .non H', rt := Q } (startN 6 vs) H := by
  obtain ⟨a, f, rfl, ⟨fv, ha, rp⟩, hsz, hnm, q⟩ := h
  show t_row_of K _ [some (.ref a), none, none, none, none, none] H
  unfold t_row_of
  have hz := sizeLine_eq
  have hrl := row_len f
  walk_at "rd"
  refine ⟨Nat.zero_le _, fun rn hrn => ?_⟩
  generalize hG : upd H rn _ = H1
  obtain ⟨k1, e1⟩ := gen_new hrn hG
  clear hG
  rw [o_revT]
  walk_at "rd"
  refine ⟨a, _, rfl, Tk.kp k1 _ _ ha, fun p1 hp1 => ?_⟩
  generalize hG : upd H1 p1 _ = H2
  obtain ⟨k2, e2⟩ := gen_new hp1 hG
  clear hG
  refine ⟨p1, _, rfl, .inr (SqT.of e2), fun tn htn => ?_⟩
  generalize hG : upd H2 tn _ = H3
  obtain ⟨k3, e3⟩ := gen_new htn hG
  clear hG
  have k03 : Kp H H3 := fun b o e => k3 _ _ (k2 _ _ (k1 _ _ e))
  have rntn : rn ≠ tn := ne_of_none (k2 _ _ e1) htn
  have rnH : H rn = none := hrn
  have tnH : H tn = none := Kp.free (fun b o e => k2 _ _ (k1 _ _ e)) htn
  walk_at "rd"
  refine ⟨RowInv K H a rn tn f, ?_, ?_⟩
  · refine ⟨_, [], fv, trees f, _, _, _, k03, k3 _ _ (k2 _ _ e1), e3, ?_, by rw [List.nil_append, trees_out], trees_ok hnm, rfl, rfl⟩
    have := TdAt.of (rp.mono (Tk.kp k03)) (TdAt.nil (K := K))
    rwa [List.append_nil, List.append_nil] at this
  · rintro m σ H4 ⟨xs, ws, ts, x, y, z, k4, hr4, ht4, td, hrow, hok, rfl, rfl⟩
    rw [o_tru]
    walk_at "rd"
    refine ⟨!ws.reverse.isEmpty, .inl ⟨_, SqL.of ht4, rfl⟩, ?_⟩
    have hlx : xs.length + ((ts.map tdOut).flatten).length = 2 * f.nm.length := by rw [← List.length_append, hrow, hrl]
    cases td with
    | nil =>
      simp only [List.reverse_nil, List.isEmpty_nil, Bool.not_true, Bool.false_eq_true, if_false]
      refine ⟨rn, _, rfl, .inl ⟨SqL.of hr4, fun p hp => ?_⟩⟩
      generalize hG : upd H4 p _ = H5
      obtain ⟨k5, e5⟩ := gen_new hp hG
      clear hG
      have e6 : xs = f.row := by simpa using hrow
      exact q p H5 (fun b o e => k5 _ _ (k4 _ _ e)) (by rw [← e6]; exact SqT.of e5)
    | @str s vs ts td =>
      have hne : (!((V.str s :: vs).reverse).isEmpty) = true := by simp
      rw [hne, if_pos rfl]
      refine ⟨RowInv K H a rn tn f ((ts.map tdOut).flatten).length, fun σ' H' w => ⟨_, ?_, w⟩, ?_⟩
      rotate_left
      · unfold t_row_of_b1
        walk_at "rd"
        have hl : ((V.str s :: vs).reverse)[((V.str s :: vs).reverse).length - 1]? = some (.str s) := by simp
        refine ⟨.inl ⟨rfl, _, SqL.of ht4⟩, tn, _, _, rfl, rfl, ht4, hl, ?_⟩
        rw [List.reverse_cons, List.dropLast_concat]
        generalize hG : upd H4 tn _ = H5
        obtain ⟨k5, e5⟩ := gen_chg hG
        clear hG
        walk_at "rd"
        refine o_isiS ?_
        walk_at "rd"
        have hr5 := k5 _ _ hr4 rntn
        have hl1 : ((tdOut (.inl s) :: ts.map tdOut).flatten).length = 1 + ((ts.map tdOut).flatten).length := by rw [List.flatten_cons, List.length_append]; rfl
        rw [List.map_cons] at hlx hrow
        rw [hl1] at hlx
        refine ⟨.inl ⟨rfl, _, SqL.of hr5⟩, rn, _, _, rfl, rfl, hr5, by rw [List.length_map]; omega, ?_⟩
        generalize hG : upd H5 rn _ = H6
        obtain ⟨k6, e6⟩ := gen_chg hG
        clear hG
        refine ⟨xs ++ [s], vs, ts, _, _, _, fun b o e => k6 _ _ (k5 _ _ (k4 _ _ e) (ne_of_none e tnH)) (ne_of_none e rnH), by rw [e6]; simp, k6 _ _ e5 rntn.symm, td.mono ((Tk.but (.inl ⟨_, ht4⟩) k5).trans (Tk.but (.inl ⟨_, hr5⟩) k6)), ?_, fun t ht => hok t (List.mem_cons_of_mem _ ht), rfl, rfl⟩
        rw [List.append_assoc]; exact hrow
      · rw [List.map_cons, List.flatten_cons, List.length_append]
        show _ < 1 + _
        omega
    | @tree t k n kvs vs ks ts at_ ak rk td =>
      have hne : (!((V.ref t :: vs).reverse).isEmpty) = true := by simp
      rw [hne, if_pos rfl]
      have hout : ((tdOut (.inr (n, ks)) :: ts.map tdOut).flatten) = Fo.plus n :: ((((trees ks ++ (.inl (Fo.minus n) :: ts)).map tdOut).flatten)) := by
        rw [List.map_append, List.flatten_append, trees_out]
        show (Fo.cons n ks .nil).row ++ _ = Fo.plus n :: (ks.row ++ (Fo.minus n :: _))
        simp [Fo.row]
      rw [List.map_cons, hout] at hlx hrow
      rw [List.length_cons] at hlx
      refine ⟨RowInv K H a rn tn f (((trees ks ++ (.inl (Fo.minus n) :: ts)).map tdOut).flatten.length), fun σ' H' w => ⟨_, ?_, w⟩, ?_⟩
      · rw [List.map_cons, hout, List.length_cons]; exact Nat.lt_succ_self _
      · unfold t_row_of_b1
        walk_at "rd"
        have hl : ((V.ref t :: vs).reverse)[((V.ref t :: vs).reverse).length - 1]? = some (.ref t) := by simp
        refine ⟨.inl ⟨rfl, _, SqL.of ht4⟩, tn, _, _, rfl, rfl, ht4, hl, ?_⟩
        rw [List.reverse_cons, List.dropLast_concat]
        generalize hG : upd H4 tn _ = H5
        obtain ⟨k5, e5⟩ := gen_chg hG
        clear hG
        have t45 : Tk K H4 H5 := Tk.but (.inl ⟨_, ht4⟩) k5
        walk_at "rd"
        refine o_isiN (sqt_noStr (t45 _ _ at_)) ?_
        walk_at "rd"
        simp only [Bool.false_eq_true, if_false]
        have hr5 := k5 _ _ hr4 rntn
        have hn100 : n.length ≤ 100 := hok _ (List.mem_cons_self ..) n (List.mem_cons_self ..)
        have l1 : (("+" : Str)).length = 1 := by decide +kernel
        have l2 : (("-" : Str)).length = 1 := by decide +kernel
        refine ⟨t, _, rfl, t45 _ _ at_, rfl, _, _, rfl, _, _, rfl, rfl, ?_⟩
        refine ⟨.inl ⟨rfl, _, SqL.of hr5⟩, joined_two (n := n) rfl (by omega) hn100 ?_⟩
        refine ⟨rn, _, _, rfl, rfl, hr5, by rw [List.length_map]; omega, ?_⟩
        generalize hG : upd H5 rn _ = H6
        obtain ⟨k6, e6⟩ := gen_chg hG
        clear hG
        have ht6 := k6 _ _ e5 rntn.symm
        refine ⟨.inl ⟨rfl, _, SqL.of ht6⟩, joined_two (n := n) rfl (by omega) hn100 ?_⟩
        have hlt : ts.length + ks.tops.length + 1 ≤ ((trees ks ++ (.inl (Fo.minus n) :: ts)).map tdOut).flatten.length := by
          refine Nat.le_trans (Nat.le_of_eq ?_) (td_le _)
          rw [List.length_append, List.length_cons, trees_len]; omega
        refine ⟨tn, _, _, rfl, rfl, ht6, by rw [List.length_reverse, td.len]; omega, ?_⟩
        generalize hG : upd H6 tn _ = H7
        obtain ⟨k7, e7⟩ := gen_chg hG
        clear hG
        have t57 : Tk K H5 H7 := (Tk.but (.inl ⟨_, hr5⟩) k6).trans (Tk.but (.inl ⟨_, ht6⟩) k7)
        have t47 := t45.trans t57
        refine ⟨.inl ⟨rfl, _, SqL.of e7⟩, ?_⟩
        rw [o_revT]
        walk_at "rd"
        refine ⟨k, _, rfl, t47 _ _ ak, fun p8 hp8 => ?_⟩
        generalize hG : upd H7 p8 _ = H8
        obtain ⟨k8, e8⟩ := gen_new hp8 hG
        clear hG
        refine ⟨tn, p8, _, _, rfl, rfl, k8 _ _ e7, SqT.of e8, ?_, ?_⟩
        · rw [List.length_append, List.length_reverse, List.length_reverse, List.length_singleton, td.len, rk.len]; omega
        generalize hG : upd H8 tn _ = H9
        obtain ⟨k9, e9⟩ := gen_chg hG
        clear hG
        have t79 : Tk K H7 H9 := (Tk.kp k8).trans (Tk.but (.inl ⟨_, k8 _ _ e7⟩) k9)
        have t49 := t47.trans t79
        refine ⟨xs ++ [Fo.plus n], kvs ++ (V.str (Fo.minus n) :: vs), trees ks ++ (.inl (Fo.minus n) :: ts), _, _, _, ?_, ?_, ?_, TdAt.of (rk.mono t49) (.str (td.mono t49)), ?_, ?_, rfl, rfl⟩
        · exact fun b o e => k9 _ _ (k8 _ _ (k7 _ _ (k6 _ _ (k5 _ _ (k4 _ _ e) (ne_of_none e tnH)) (ne_of_none e rnH)) (ne_of_none e tnH))) (ne_of_none e tnH)
        · rw [k9 _ _ (k8 _ _ (k7 _ _ e6 rntn)) rntn]; simp [Fo.plus]
        · rw [e9]; simp [Fo.minus]
        · rw [List.append_assoc]; exact hrow
        · intro t' ht'
          rcases List.mem_append.mp ht' with h | h
          · refine trees_ok (fun m hm => ?_) t' h
            exact hok _ (List.mem_cons_self ..) m (List.mem_cons_of_mem _ (List.mem_append_left _ hm))
          · rcases List.mem_cons.mp h with h | h
            · subst h
              show (("-" : Str) ++ n).length ≤ 200
              rw [len_tl, tl_app, List.length_append, ← len_tl, ← len_tl]; omega
            · exact hok t' (List.mem_cons_of_mem _ h)
where
  trees_len : ∀ {f : Fo}, (trees f).length = f.tops.length
    | .nil => rfl
    | .cons n ks r => by show (trees r).length + 1 = r.tops.length + 1; rw [trees_len]
end
end Tw
set_option Elab.async false
set_option linter.all false
set_option maxRecDepth 100000
set_option maxHeartbeats 4000000
/-! equal woods, equal rows; what a law promises -/
namespace Tw
open PySem PySem.Spec PyProof.Rows L2 TL
def sp_law (K : PySem.W.Frag) : Sp := fun vs H Q _ => ∃ (a : Addr) (ns : List Int), vs = [.ref a] ∧ ns.length ≤ 63 ∧ SqL K H a (ns.map V.int) ∧ ∀ H', Q (.bl true) H'
theorem len_law {K : PySem.W.Frag} (vs : List V) (H : Hp) (Q : VK) (E : XK) (h : sp_law K vs H Q E) : vs.length = 1 := by
  obtain ⟨_, _, rfl, _⟩ := h; rfl
theorem data_lay : ∀ f : Fo, (∀ z ∈ f.nm, IsName z) → PyData.canLayAll0 f.data = true
  | .nil, _ => by simp [Fo.data, PyData.canLayAll0]
  | .cons n ks r, h => by
    have h1 := strOk_of (h n (List.mem_cons_self ..))
    have h2 := data_lay ks fun z hz => h z (List.mem_cons_of_mem _ (List.mem_append_left _ hz))
    have h3 := data_lay r fun z hz => h z (List.mem_cons_of_mem _ (List.mem_append_right _ hz))
    simp [Fo.data, PyData.canLayAll0, PyData.canLay0, h1, h2, h3]
theorem data_depth : ∀ f : Fo, PyData.depthAll f.data ≤ 2 * f.dp
  | .nil => by simp [Fo.data, PyData.depthAll]
  | .cons n ks r => by
    have h2 := data_depth ks
    have h3 := data_depth r
    simp only [Fo.data, PyData.depthAll, PyData.depth, Fo.dp]
    omega
theorem strs_lay : ∀ zs : List Str, (∀ z ∈ zs, PyData.strOk z = true) → PyData.canLayAll0 (zs.map PyData.str) = true
  | [], _ => by simp [PyData.canLayAll0]
  | z :: zs, h => by
    have h1 := h z (List.mem_cons_self ..)
    have h2 := strs_lay zs fun y hy => h y (List.mem_cons_of_mem _ hy)
    simp [PyData.canLayAll0, PyData.canLay0, h1, h2]
theorem strs_depth : ∀ zs : List Str, PyData.depthAll (zs.map PyData.str) = 0
  | [] => by simp [PyData.depthAll]
  | z :: zs => by simp [PyData.depthAll, PyData.depth, strs_depth zs]
theorem strs_dp {K : PySem.W.Frag} {H : Hp} : ∀ zs : List Str, DpAll K H (zs.map V.str) (zs.map PyData.str)
  | [] => .nil
  | z :: zs => .cons (.str z) (strs_dp zs)
theorem en_ok {e : En} (h : IsName e.2) : PyData.strOk (en e) = true := by
  unfold PyData.strOk
  rw [← Array.all_toList, List.all_eq_true, en_codes]
  intro c hc
  simp only [decide_eq_true_eq]
  rcases List.mem_cons.mp hc with rfl | hc
  · split <;> decide
  · have := h.let_ c hc; omega
theorem row_ok (f : Fo) (h : ∀ z ∈ f.nm, IsName z) : ∀ z ∈ f.row, PyData.strOk z = true := by
  rw [Fo.row_erow]
  intro z hz
  obtain ⟨e, he, rfl⟩ := List.mem_map.mp hz
  exact en_ok (h _ (erow_nm f e he))
theorem Dk.tk {K : PySem.W.Frag} {a : Addr} {H H' : Hp} (k : Dk a H H') (hd : DeckAt H a) : Tk K H H' := by
  obtain ⟨x, y, z, hd⟩ := hd
  exact Tk.but (.inl ⟨_, hd⟩) k.keep
section
variable {K : PySem.W.Frag} {H : Hp} {Q : VK}
theorem o_eqWood {a b : Addr} {f : Fo} (h1 : WoodAt K H a f) (h2 : WoodAt K H b f) (hn : ∀ z ∈ f.nm, IsName z) (hd : f.dp ≤ 99) (q : Q (.bl true) H) : rEqB K (.ref a) (.ref b) H Q := by
  have hl : PyData.canLay0 (.tuple f.data) = true := by rw [PyData.canLay0]; exact data_lay f hn
  have e := SeqAt.eqv_refl (.tuple f.data) hl
  have := data_depth f
  refine ⟨_, _, h1.dp, h2.dp, hl, hl, ?_, by rw [e]; exact q⟩
  simp only [PyData.depth]; omega
theorem o_eqRow {a b : Addr} {zs : List Str} (h1 : SqT K H a (zs.map V.str)) (h2 : SqT K H b (zs.map V.str)) (hn : ∀ z ∈ zs, PyData.strOk z = true) (q : Q (.bl true) H) : rEqB K (.ref a) (.ref b) H Q := by
  have hl : PyData.canLay0 (.tuple (zs.map PyData.str)) = true := by rw [PyData.canLay0]; exact strs_lay zs hn
  have e := SeqAt.eqv_refl _ hl
  refine ⟨_, _, .tup h1 (strs_dp zs), .tup h2 (strs_dp zs), hl, hl, ?_, by rw [e]; exact q⟩
  simp only [PyData.depth, strs_depth]; omega
theorem o_neRow {a b : Addr} {zs : List Str} (h1 : SqT K H a (zs.map V.str)) (h2 : SqT K H b (zs.map V.str)) (hn : ∀ z ∈ zs, PyData.strOk z = true) (q : Q (.bl false) H) : rNeB K (.ref a) (.ref b) H Q := by
  have hl : PyData.canLay0 (.tuple (zs.map PyData.str)) = true := by rw [PyData.canLay0]; exact strs_lay zs hn
  have e := SeqAt.eqv_refl _ hl
  refine ⟨_, _, .tup h1 (strs_dp zs), .tup h2 (strs_dp zs), hl, hl, ?_, by rw [e]; exact q⟩
  simp only [PyData.depth, strs_depth]; omega
end
end Tw
set_option Elab.async false
set_option linter.all false
set_option maxRecDepth 100000
set_option maxHeartbeats 4000000
/-! who lies in whom -/
namespace Tw
open PySem PySem.Spec PyProof.Rows L2 TL
local macro_rules | `(tactic| walk_at "rd") => `(tactic| try simp only [o_op, o_un, o_var, o_c, o_cb, o_call, o_cons, o_nil, o_tup, o_lst, o_I0, o_I, o_int1, o_intb, o_abs, o_test, o_b, o_not, o_and, o_or, o_andV, o_orV, o_notV, o_ifE, o_isN, o_notN, o_eq, o_ne, o_seq, o_next, o_asg, o_name, o_sub, o_par, o_par3, o_drop, o_ret, o_retN, o_ifS, o_sl, o_noPart, o_part, o_bm, o_bm0, o_m0, o_m1, o_dget, o_dput, o_din, o_dnotin, o_listKeys, e_bl, e_int, e_str, e_some, e_two, e_three, o_for, o_lc, o_iList, o_iTup, o_iRng1, e_int1, e_ref, o_yes, o_wipe0, o_wipe1, o_disp, o_dnew, o_pairs0, o_pairs1, o_lock, o_keysM, o_gtup, o_gcons, o_gnil, o_rU, o_tru, o_revT, o_enumT, o_from, true_and, if_pos, List.getElem?_cons_zero, List.getElem?_cons_succ, List.set_cons_zero, List.set_cons_succ, List.append_nil])
/-- each name with the name it lies in -/
def pars : Fo → V → List (Str × V)
  | .nil, _ => []
  | .cons n ks r, t => (n, t) :: (pars ks (.str n) ++ pars r t)
theorem pars_nm : ∀ (f : Fo) (t : V), (pars f t).map (·.1) = f.nm
  | .nil, _ => rfl
  | .cons n ks r, t => by simp only [pars, List.map_cons, List.map_append, pars_nm ks, pars_nm r]; rfl
/-- the same, from the ends that come and the names that are open, the innermost first -/
def rpar : List En → List V → List (Str × V)
  | [], _ => []
  | (true, n) :: es, st => (n, st.headD .non) :: rpar es (.str n :: st)
  | (false, _) :: es, st => rpar es st.tail
theorem rpar_app : ∀ (f : Fo) (es : List En) (t : V) (st : List V), rpar (f.erow ++ es) (t :: st) = pars f t ++ rpar es (t :: st)
  | .nil, _, _, _ => rfl
  | .cons n ks r, es, t, st => by
    show rpar ((true, n) :: ((ks.erow ++ (false, n) :: r.erow) ++ es)) (t :: st) = _
    rw [List.append_assoc]
    show (n, t) :: rpar (ks.erow ++ ((false, n) :: (r.erow ++ es))) (.str n :: t :: st) = _
    rw [rpar_app ks]
    show (n, t) :: (pars ks (.str n) ++ rpar (r.erow ++ es) (t :: st)) = _
    rw [rpar_app r]
    simp [pars]
/-- these ends close what is open -/
def Bal : List En → Nat → Prop
  | [], _ => True
  | (true, _) :: es, k => Bal es (k + 1)
  | (false, _) :: es, k => ∃ j, k = j + 1 ∧ Bal es j
theorem bal_app : ∀ (f : Fo) (es : List En) (k : Nat), Bal es k → Bal (f.erow ++ es) k
  | .nil, _, _, h => h
  | .cons n ks r, es, k, h => by
    show Bal ((true, n) :: ((ks.erow ++ (false, n) :: r.erow) ++ es)) k
    rw [List.append_assoc]
    exact bal_app ks ((false, n) :: (r.erow ++ es)) (k + 1) ⟨k, rfl, bal_app r es k h⟩
theorem bal_row (f : Fo) : Bal f.erow 0 := by
  have := bal_app f [] 0 trivial
  rwa [List.append_nil] at this
abbrev pk (ps : List (Str × V)) : List (Key × V) := ps.map fun p => ((Sum.inr p.1 : Key), p.2)
theorem valV_pk (n : Str) : ∀ ps : List (Str × V), valV (pk ps) (Sum.inr n) = (ps.find? fun p => p.1 = n).map (·.2)
  | [] => rfl
  | p :: ps => by
    by_cases e : p.1 = n
    · rw [show pk (p :: ps) = ((Sum.inr p.1 : Key), p.2) :: pk ps from rfl, valV_pos (by rw [e])]
      simp [List.find?_cons, e]
    · rw [show pk (p :: ps) = ((Sum.inr p.1 : Key), p.2) :: pk ps from rfl, valV_neg (fun z => e (Sum.inr.inj z)), valV_pk n ps]
      simp [List.find?_cons, e]
theorem pk_none {n : Str} {ps : List (Str × V)} (h : n ∉ ps.map (·.1)) : valV (pk ps) (Sum.inr n) = none := by
  rw [valV_pk, Option.map_eq_none_iff, List.find?_eq_none]
  intro p hp
  simp only [decide_eq_true_eq]
  exact fun e => h (e ▸ List.mem_map_of_mem hp)
theorem pk_some {n : Str} {v : V} : ∀ {ps : List (Str × V)}, (ps.map (·.1)).Nodup → (n, v) ∈ ps → valV (pk ps) (Sum.inr n) = some v
  | p :: ps, nd, h => by
    rw [show pk (p :: ps) = ((Sum.inr p.1 : Key), p.2) :: pk ps from rfl]
    rw [List.map_cons, List.nodup_cons] at nd
    rcases List.mem_cons.mp h with h | h
    · subst h; exact valV_pos rfl
    · have : ¬ p.1 = n := fun e => nd.1 (e ▸ List.mem_map_of_mem (f := (·.1)) h)
      rw [valV_neg (fun z => this (Sum.inr.inj z))]
      exact pk_some nd.2 h
def sp_parents_of (K : PySem.W.Frag) : Sp := fun vs H Q _ => ∃ a f, vs = [.ref a] ∧ WoodAt K H a f ∧ NameOk f ∧ ∀ p H', Kp H H' → H p = none → H' p = some (.dK (pk (pars f .non))) → Q (.ref p) H'
def sp_names_of (K : PySem.W.Frag) : Sp := fun vs H Q _ => ∃ a f, vs = [.ref a] ∧ WoodAt K H a f ∧ NameOk f ∧ ∀ p H', Kp H H' → SqT K H' p (f.nm.map V.str) → Q (.ref p) H'
def sp_u_check_there (K : PySem.W.Frag) : Sp := fun vs H Q _ => ∃ (d tp : Addr) (ps : List (Str × V)) (zs : List Str), vs = [.ref d, .ref tp] ∧ H d = some (.dK (pk ps)) ∧ SqT K H tp (zs.map V.str) ∧ (∀ z ∈ zs, z ∈ ps.map (·.1)) ∧ Q .non H
def sp_parent_of (K : PySem.W.Frag) : Sp := fun vs H Q _ => ∃ a f n v, vs = [.ref a, .str n] ∧ WoodAt K H a f ∧ NameOk f ∧ (n, v) ∈ pars f .non ∧ ∀ H', Kp H H' → Q v H'
/-- the names that lie right in v -/
def filt (ps : List (Str × V)) (v : V) : List Str := (ps.filter fun p => p.2 = v).map (·.1)
def sp_children_of (K : PySem.W.Frag) : Sp := fun vs H Q _ => ∃ a f v, vs = [.ref a, v] ∧ WoodAt K H a f ∧ NameOk f ∧ (v = .non ∨ ∃ n, n ∈ f.nm ∧ v = .str n) ∧ ∀ p H', Kp H H' → SqT K H' p ((filt (pars f .non) v).map V.str) → Q (.ref p) H'
def t_parents_of_b1 (K : PySem.W.Frag) : TS :=
  (tIfS (tTest (tOp rEq (tOp rIxS (tVar 3) (tC (.int 0))) (tC (.str "+")))) (tSeq (sDPut (tVar 1) (L2.tSl rSlS (tVar 3) (tPart (tC (.int 1))) tNoPart) (tOp (rIxL K) (tVar 2) (tUn (rU fun i => .int (-i)) (tC (.int 1)))))
  (tDrop (tBM K "list" rAppend (tVar 2) (tCons (L2.tSl rSlS (tVar 3) (tPart (tC (.int 1))) tNoPart) tNil)))) (tDrop (tBM0 K "list" rPop (tVar 2))))
def t_parents_of (K : PySem.W.Frag) : TS :=
  (tSeq (tAsg tDNewK (gName 1))
  (tSeq (tAsg (tLst (tCons (tC .non) tNil)) (gName 2))
  (tSeq (tFor (iTup K (tCall (sp_row_of K) [] E0 (tCons (tVar 0) tNil))) (gName 3)
  (t_parents_of_b1 K))
  (tRet (tVar 1)))))
def t_names_of (K : PySem.W.Frag) : TS :=
  (tRet (tCB (rTupleOf K) (tCons (tLc (iTup K (tCall (sp_row_of K) [] E0 (tCons (tVar 0) tNil))) (gName 1) (tTest (tOp rEq (tOp rIxS (tVar 1) (tC (.int 0))) (tC (.str "+")))) (L2.tSl rSlS (tVar 1) (tPart (tC (.int 1))) tNoPart) [1]) tNil)))
def t_parent_of (K : PySem.W.Frag) : TS :=
  (tSeq (tAsg (tCall (sp_parents_of K) [] E0 (tCons (tVar 0) tNil)) (gName 2))
  (tSeq (tDrop (tCall (sp_u_check_there K) [] E0 (tCons (tVar 2) (tCons (tTup (tCons (tVar 1) tNil)) tNil))))
  (tRet (tDGet (tVar 2) (tVar 1)))))
def t_children_of_r1 (K : PySem.W.Frag) : TS :=
  (tRet (tCB (rTupleOf K) (tCons (tLockE (tLc (iKeys (tVar 2)) (gName 3) (tTest (tOp (rEqB K) (tDGet (tVar 2) (tVar 3)) (tVar 1))) (tVar 3) [3])) tNil)))
def t_children_of (K : PySem.W.Frag) : TS :=
  (tSeq (tAsg (tCall (sp_parents_of K) [] E0 (tCons (tVar 0) tNil)) (gName 2))
  (C8.tCut (tIfS (tB (tNotN (tVar 1))) (tDrop (tCall (sp_u_check_there K) [] E0 (tCons (tVar 2) (tCons (tTup (tCons (tVar 1) tNil)) tNil)))) tNext)
  (t_children_of_r1 K)))
def t_u_check_there_b1 (K : PySem.W.Frag) : TS :=
  (tIfS (tOr (tNot (tB (tIsi K "str" (tVar 2)))) (tB (tDNotIn (tVar 2) (tVar 0)))) tNever tNext)
def t_u_check_there (K : PySem.W.Frag) : TS :=
  (tFor (iTup K (tVar 1)) (gName 2)
  (t_u_check_there_b1 K))
section
variable {K : PySem.W.Frag}
theorem len_parents_of (vs : List V) (H : Hp) (Q : VK) (E : XK) (h : sp_parents_of K vs H Q E) : vs.length = 1 := by
  obtain ⟨_, _, rfl, _⟩ := h; rfl
theorem len_names_of (vs : List V) (H : Hp) (Q : VK) (E : XK) (h : sp_names_of K vs H Q E) : vs.length = 1 := by
  obtain ⟨_, _, rfl, _⟩ := h; rfl
theorem len_u_check_there (vs : List V) (H : Hp) (Q : VK) (E : XK) (h : sp_u_check_there K vs H Q E) : vs.length = 2 := by
  obtain ⟨_, _, _, _, rfl, _⟩ := h; rfl
theorem len_parent_of (vs : List V) (H : Hp) (Q : VK) (E : XK) (h : sp_parent_of K vs H Q E) : vs.length = 2 := by
  obtain ⟨_, _, _, _, rfl, _⟩ := h; rfl
theorem len_children_of (vs : List V) (H : Hp) (Q : VK) (E : XK) (h : sp_children_of K vs H Q E) : vs.length = 2 := by
  obtain ⟨_, _, _, rfl, _⟩ := h; rfl
theorem NameOk.short {f : Fo} (h : NameOk f) : ∀ z ∈ f.nm, z.length ≤ 100 := fun z hz => by have := (h.nms z hz).eight; omega
theorem at_last (xs : List V) (x : V) : atI (xs ++ [x]) (-1) = some x := by
  have e : ixN (xs ++ [x]).length (-1) = some xs.length := by
    unfold ixN
    simp only [List.length_append, List.length_singleton]
    rw [if_neg (by decide)]
    simp
    omega
  unfold atI
  rw [e]; simp
theorem pure_parents_of (vs : List V) (H : Hp) (Q : VK) (E : XK) (h : sp_parents_of K vs H Q E) : t_parents_of K { nx := fun _ H' => Q .non H', rt := Q } (startN 4 vs) H := by
  obtain ⟨a, f, rfl, ha, hf, q⟩ := h
  show t_parents_of K _ [some (.ref a), none, none, none] H
  unfold t_parents_of
  have hz := sizeLine_eq
  have hsz := hf.sz
  walk_at "rd"
  intro pd hpd
  generalize hG : upd H pd _ = H1
  obtain ⟨k1, e1⟩ := gen_new hpd hG
  clear hG
  refine ⟨by show 1 ≤ sizeLine; omega, fun an han => ?_⟩
  generalize hG : upd H1 an _ = H2
  obtain ⟨k2, e2⟩ := gen_new han hG
  clear hG
  have k02 : Kp H H2 := fun b o e => k2 _ _ (k1 _ _ e)
  have pdan : pd ≠ an := ne_of_none e1 han
  have anH : H an = none := Kp.free k1 han
  refine ⟨a, f, rfl, ha.mono (Tk.kp k02), hsz, hf.short, fun rp H3 k3 hr => ?_⟩
  walk_at "rd"
  refine ⟨⟨_, hr⟩, ?_⟩
  have hlen : f.erow.length = 2 * f.nm.length := by rw [← row_len f, Fo.row_erow, List.length_map]
  rw [Fo.row_erow, List.map_map] at hr
  refine fb_tup (xs := f.erow.map (V.str ∘ en)) (fun i σ H4 => ∃ dn st x, Kp H H4 ∧ Tk K H3 H4 ∧ H4 pd = some (.dK (pk dn)) ∧ H4 an = some (.lst st.reverse) ∧ dn ++ rpar (f.erow.drop i) st = pars f .non ∧ (∃ k, st.length = k + 1 ∧ Bal (f.erow.drop i) k) ∧ dn.length ≤ i ∧ st.length ≤ i + 1 ∧ i ≤ f.erow.length ∧
    σ = [some (.ref a), some (.ref pd), some (.ref an), x]) ?_ ?_ ?_ ?_
  · refine ⟨[], [.non], _, fun b o e => k3 _ _ (k02 _ _ e), Tk.refl, k3 _ _ (k2 _ _ e1), k3 _ _ e2, ?_, ⟨0, rfl, bal_row f⟩, Nat.le_refl _, Nat.le_refl _, Nat.zero_le _, rfl⟩
    have := rpar_app f [] .non []
    rw [List.append_nil] at this
    rw [List.nil_append, List.drop_zero, this]
    simp [rpar]
  · rintro i σ H4 _ ⟨dn, st, x, k4, t4, _⟩
    exact t4 _ _ hr
  · rintro i v σ H4 hx ⟨dn, st, x, k4, t4, hd4, ha4, hpar, ⟨k, hk, hbal⟩, hdl, hsl, hi, rfl⟩
    rw [List.getElem?_map, Option.map_eq_some_iff] at hx
    obtain ⟨e, he, rfl⟩ := hx
    rw [drop_at he] at hpar hbal
    have hi2 := (List.getElem?_eq_some_iff.mp he).1
    have hie : IsName e.2 := hf.nms _ (erow_nm f e (List.mem_of_getElem? he))
    have h8 := hie.eight
    unfold t_parents_of_b1
    walk_at "rd"
    refine o_ixS (by rw [en_len]; omega) (en_at0 e) ⟨rfl, ?_⟩
    obtain ⟨t, st', rfl⟩ : ∃ t st', st = t :: st' := by
      cases st with
      | nil => simp at hk
      | cons t st' => exact ⟨t, st', rfl⟩
    obtain ⟨b, n⟩ := e
    cases b with
    | true =>
      refine ite2 (fun _ => ?_) fun h => absurd (by simpa using p43) h
      walk_at "rd"
      rw [List.reverse_cons] at ha4
      refine ⟨an, _, _, _, rfl, rfl, SqL.of ha4, at_last _ t, ?_⟩
      refine ⟨en (true, n), rfl, by rw [en_len]; omega, ?_⟩
      rw [en_cut1]
      have hnn : n ∉ dn.map (·.1) := by
        have h1 : (dn ++ rpar ((true, n) :: f.erow.drop (i + 1)) (t :: st')).map (·.1) = f.nm := by rw [hpar, pars_nm]
        have h2 := hf.nd
        rw [← h1, List.map_append] at h2
        intro hm
        exact (List.nodup_append.mp h2).2.2 n hm n (List.mem_cons_self ..) rfl
      refine ⟨pd, _, rfl, DPut.k (k := (Sum.inr n : Key)) hd4 (by rw [List.length_map]; omega), ?_⟩
      rw [putK_new _ (pk_none hnn)]
      generalize hG : upd H4 pd _ = H5
      obtain ⟨k5, e5⟩ := gen_chg hG
      clear hG
      have ha5 := k5 _ _ ha4 pdan.symm
      refine ⟨.inl ⟨rfl, _, SqL.of ha5⟩, en (true, n), rfl, by rw [en_len]; omega, ?_⟩
      rw [en_cut1]
      refine ⟨an, _, _, rfl, rfl, ha5, by simp only [List.length_cons, List.length_append, List.length_reverse, List.length_nil] at hsl ⊢; omega, ?_⟩
      generalize hG : upd H5 an _ = H6
      obtain ⟨k6, e6⟩ := gen_chg hG
      clear hG
      refine ⟨dn ++ [(n, t)], .str n :: t :: st', _, fun b o e => k6 _ _ (k5 _ _ (k4 _ _ e) (ne_of_none e hpd)) (ne_of_none e anH), (t4.trans (Tk.but (.inr (.inl ⟨_, hd4⟩)) k5)).trans (Tk.but (.inl ⟨_, ha5⟩) k6), ?_, by rw [e6]; simp, ?_, ⟨k + 1, by simp only [List.length_cons] at hk ⊢; omega, hbal⟩, by rw [List.length_append, List.length_singleton]; omega, by simp only [List.length_cons] at hsl ⊢; omega, by omega, rfl⟩
      · rw [k6 _ _ e5 pdan]; simp
      · rw [List.append_assoc]; exact hpar
    | false =>
      obtain ⟨j, rfl, hbal⟩ := hbal
      refine ite2 (fun h => absurd (by simpa using h) p45) fun _ => ?_
      walk_at "rd"
      rw [List.reverse_cons] at ha4
      refine ⟨.inl ⟨rfl, _, SqL.of ha4⟩, an, _, t, rfl, rfl, ha4, by simp, ?_⟩
      rw [List.dropLast_concat]
      generalize hG : upd H4 an _ = H5
      obtain ⟨k5, e5⟩ := gen_chg hG
      clear hG
      exact ⟨dn, st', _, fun b o e => k5 _ _ (k4 _ _ e) (ne_of_none e anH), t4.trans (Tk.but (.inl ⟨_, ha4⟩) k5), k5 _ _ hd4 pdan, e5, hpar, ⟨j, by simp only [List.length_cons] at hk; omega, hbal⟩, by omega, by simp only [List.length_cons] at hsl; omega, by omega, rfl⟩
  · rintro σ H4 ⟨dn, st, x, k4, t4, hd4, ha4, hpar, _, _, _, _, rfl⟩
    rw [List.length_map, List.drop_length] at hpar
    walk_at "rd"
    have e : dn = pars f .non := by simpa [rpar] using hpar
    exact q pd H4 k4 hpd (by rw [← e]; exact hd4)
theorem pure_u_check_there (vs : List V) (H : Hp) (Q : VK) (E : XK) (h : sp_u_check_there K vs H Q E) : t_u_check_there K { nx := fun _ H' => Q .non H', rt := Q } (startN 3 vs) H := by
  obtain ⟨d, tp, ps, zs, rfl, hd, ht, hin, q⟩ := h
  show t_u_check_there K _ [some (.ref d), some (.ref tp), none] H
  unfold t_u_check_there
  walk_at "rd"
  refine ⟨⟨_, ht⟩, ?_⟩
  refine fb_tup (xs := zs.map V.str) (fun i σ H2 => H2 = H ∧ ∃ x, σ = [some (.ref d), some (.ref tp), x]) ⟨rfl, _, rfl⟩ ?_ ?_ ?_
  · rintro i σ H2 _ ⟨rfl, _⟩; exact ht
  · rintro i v σ H2 hx ⟨rfl, x, rfl⟩
    rw [List.getElem?_map, Option.map_eq_some_iff] at hx
    obtain ⟨z, hz, rfl⟩ := hx
    have hm := hin z (List.mem_of_getElem? hz)
    unfold t_u_check_there_b1
    walk_at "rd"
    refine o_isiS ?_
    walk_at "rd"
    simp only [Bool.not_true, Bool.false_eq_true, if_false]
    refine ⟨d, _, rfl, DGet.k (k := (Sum.inr z : Key)) hd, ?_⟩
    obtain ⟨p, hp, e⟩ := List.mem_map.mp hm
    have : (valV (pk ps) (Sum.inr z)).isSome = true := by
      rw [valV_pk, Option.isSome_map, List.find?_isSome]
      exact ⟨p, hp, by simpa using e⟩
    rw [this]
    walk_at "rd"
    exact ⟨_, rfl⟩
  · rintro σ H2 ⟨rfl, _⟩; exact q
theorem pure_parent_of (vs : List V) (H : Hp) (Q : VK) (E : XK) (h : sp_parent_of K vs H Q E) : t_parent_of K { nx := fun _ H' => Q .non H', rt := Q } (startN 3 vs) H := by
  obtain ⟨a, f, n, v, rfl, ha, hf, hn, q⟩ := h
  show t_parent_of K _ [some (.ref a), some (.str n), none] H
  unfold t_parent_of
  walk_at "rd"
  refine ⟨a, f, rfl, ha, hf, fun d H1 k1 _ hd => ?_⟩
  walk_at "rd"
  refine ⟨by show 1 ≤ sizeLine; decide, fun p hp => ?_⟩
  generalize hG : upd H1 p _ = H2
  obtain ⟨k2, e2⟩ := gen_new hp hG
  clear hG
  have hd2 := k2 _ _ hd
  refine ⟨d, p, _, [n], rfl, hd2, SqT.of e2, fun z hz => ?_, ?_⟩
  · rw [List.mem_singleton.mp hz]; exact List.mem_map_of_mem (f := (·.1)) hn
  · have hg := DGet.k (k := (Sum.inr n : Key)) hd2
    rw [pk_some (by rw [pars_nm]; exact hf.nd) hn] at hg
    exact ⟨d, _, rfl, hg, q H2 fun b o e => k2 _ _ (k1 _ _ e)⟩
theorem pls_take {es : List En} {i : Nat} {e : En} (h : es[i]? = some e) : pls (es.take (i + 1)) = pls (es.take i) ++ (if e.1 then [e.2] else []) := by
  rw [List.take_add_one, h, pls_app]
  congr 1
  obtain ⟨b, n⟩ := e
  cases b <;> rfl
theorem pls_le (es : List En) : (pls es).length ≤ es.length := by
  unfold pls
  rw [List.length_map]
  exact List.length_filter_le _ _
theorem pure_names_of (vs : List V) (H : Hp) (Q : VK) (E : XK) (h : sp_names_of K vs H Q E) : t_names_of K { nx := fun _ H' => Q .non H', rt := Q } (startN 2 vs) H := by
  obtain ⟨a, f, rfl, ha, hf, q⟩ := h
  show t_names_of K _ [some (.ref a), none] H
  unfold t_names_of
  have hz := sizeLine_eq
  have hsz := hf.sz
  walk_at "rd"
  refine ⟨a, f, rfl, ha, hsz, hf.short, fun p H1 k1 hr => ?_⟩
  walk_at "rd"
  refine ⟨⟨_, hr⟩, ?_⟩
  have hlen : f.erow.length = 2 * f.nm.length := by rw [← row_len f, Fo.row_erow, List.length_map]
  rw [Fo.row_erow, List.map_map] at hr
  refine lb_walk (n := (f.erow.map (V.str ∘ en)).length) walk_tup (fun D i H2 => H1 D = none ∧ Kp H1 H2 ∧ H2 D = some (.lst ((pls (f.erow.take i)).map V.str))) ?_ ?_ ?_ ?_
  · intro D hD
    exact ⟨hD, (show Kp H1 H1 from fun _ _ h => h).new hD, upd_same⟩
  · rintro D i H2 hi ⟨hD, k2, _⟩
    exact Tk.kp k2 _ _ hr
  · rintro D i x H2 H3 hi ⟨hD, k2, h2⟩ ⟨rfl, hx⟩
    rw [List.getElem?_map, Option.map_eq_some_iff] at hx
    obtain ⟨e, he, rfl⟩ := hx
    have hi2 := (List.getElem?_eq_some_iff.mp he).1
    have hie : IsName e.2 := hf.nms _ (erow_nm f e (List.mem_of_getElem? he))
    have h8 := hie.eight
    have hle : (pls (f.erow.take i)).length ≤ 2000 := by have := pls_le (f.erow.take i); rw [List.length_take] at this; omega
    show gName 1 (.str (en e)) _ _ _
    walk_at "rd"
    refine o_ixS (by rw [en_len]; omega) (en_at0 e) ⟨rfl, ?_⟩
    rw [pls_take he]
    obtain ⟨b, n⟩ := e
    cases b with
    | true =>
      refine ite2 (fun _ => ?_) fun h => absurd (by simpa using p43) h
      refine ⟨en (true, n), rfl, by rw [en_len]; omega, ?_⟩
      rw [en_cut1]
      refine ⟨_, h2, by rw [List.length_map]; omega, hD, fun b o e => ?_, by rw [upd_same]; simp⟩
      rw [upd_ne (ne_of_none e hD)]; exact k2 _ _ e
    | false =>
      refine ite2 (fun h => absurd (by simpa using h) p45) fun _ => ?_
      exact ⟨hD, k2, by simpa using h2⟩
  · rintro D H2 hD ⟨_, k2, h2⟩
    rw [List.length_map, List.take_length, pls_row] at h2
    refine ⟨D, _, rfl, .inl ⟨SqL.of h2, fun p hp => ?_⟩⟩
    generalize hG : upd H2 p _ = H3
    obtain ⟨k3, e3⟩ := gen_new hp hG
    clear hG
    exact q p H3 (fun b o e => k3 _ _ (k2 _ _ (k1 _ _ e))) (SqT.of e3)
theorem o_keysD {td : TE} {σ : L2.St} {H : Hp} {R : It → Hp → Prop} : iKeys td σ H R = td σ H fun x H1 => ∃ d o, x = .ref d ∧ ((∃ kvs, H1 d = some (.frz o (.dK kvs)) ∧ R (Itk d o kvs) H1) ∨ ∃ kvs, H1 d = some (.frz o (.dT kvs)) ∧ R (Itkt d o kvs) H1) := rfl
theorem o_lockE {t : TE} {σ : L2.St} {H : Hp} {Q : VK} : tLockE t σ H Q = ∃ d u, H d = some u ∧ Mut (some u) ∧ ∀ od, t σ (upd H d (.frz od u)) fun v H' => H' d = some (.frz od u) ∧ Q v (upd H' d u) := rfl
/-- none or a text -/
def NS (v : V) : Prop := v = .non ∨ ∃ n, IsName n ∧ v = .str n
theorem pars_ns : ∀ {f : Fo} {t : V}, NS t → (∀ z ∈ f.nm, IsName z) → ∀ p ∈ pars f t, NS p.2
  | .cons n ks r, t, ht, h, p, hp => by
    have hn := h n (List.mem_cons_self ..)
    rcases List.mem_cons.mp hp with e | hp
    · rw [e]; exact ht
    · rcases List.mem_append.mp hp with hp | hp
      · exact pars_ns (.inr ⟨n, hn, rfl⟩) (fun z hz => h z (List.mem_cons_of_mem _ (List.mem_append_left _ hz))) p hp
      · exact pars_ns ht (fun z hz => h z (List.mem_cons_of_mem _ (List.mem_append_right _ hz))) p hp
theorem eqv_str (n m : Str) : PyData.eqv (.str n) (.str m) = decide (V.str n = V.str m) := by
  by_cases h : n = m
  · subst h; simp [PyData.eqv]
  · have h2 : ¬ V.str n = V.str m := fun e => h (V.str.inj e)
    simp [PyData.eqv, h]
theorem ns_eq {x y : V} {H : Hp} {Q : VK} (hx : NS x) (hy : NS y) (q : Q (.bl (decide (x = y))) H) : rEqB K x y H Q := by
  rcases hx with rfl | ⟨n, hn, rfl⟩ <;> rcases hy with rfl | ⟨m, hm, rfl⟩
  · exact ⟨_, _, .non, .non, rfl, rfl, by simp [PyData.depth], by simpa [PyData.eqv] using q⟩
  · exact ⟨_, _, .non, .str m, rfl, strOk_of hm, by simp [PyData.depth], by simpa [PyData.eqv] using q⟩
  · exact ⟨_, _, .str n, .non, strOk_of hn, rfl, by simp [PyData.depth], by simpa [PyData.eqv] using q⟩
  · exact ⟨_, _, .str n, .str m, strOk_of hn, strOk_of hm, by simp [PyData.depth], by rw [eqv_str]; exact q⟩
theorem ns_ne {x y : V} {H : Hp} {Q : VK} (hx : NS x) (hy : NS y) (q : Q (.bl (!decide (x = y))) H) : rNeB K x y H Q := by
  rcases hx with rfl | ⟨n, hn, rfl⟩ <;> rcases hy with rfl | ⟨m, hm, rfl⟩
  · exact ⟨_, _, .non, .non, rfl, rfl, by simp [PyData.depth], by simpa [PyData.eqv] using q⟩
  · exact ⟨_, _, .non, .str m, rfl, strOk_of hm, by simp [PyData.depth], by simpa [PyData.eqv] using q⟩
  · exact ⟨_, _, .str n, .non, strOk_of hn, rfl, by simp [PyData.depth], by simpa [PyData.eqv] using q⟩
  · exact ⟨_, _, .str n, .str m, strOk_of hn, strOk_of hm, by simp [PyData.depth], by rw [eqv_str]; exact q⟩
theorem filt_take {ps : List (Str × V)} {i : Nat} {p : Str × V} {v : V} (h : ps[i]? = some p) : filt (ps.take (i + 1)) v = filt (ps.take i) v ++ (if decide (p.2 = v) then [p.1] else []) := by
  unfold filt
  rw [List.take_add_one, h, List.filter_append, List.map_append]
  congr 1
  by_cases e : p.2 = v
  · simp [e]
  · simp [e]
theorem filt_le (ps : List (Str × V)) (v : V) : (filt ps v).length ≤ ps.length := by
  unfold filt
  rw [List.length_map]
  exact List.length_filter_le _ _
theorem pure_children_of (vs : List V) (H : Hp) (Q : VK) (E : XK) (h : sp_children_of K vs H Q E) : t_children_of K { nx := fun _ H' => Q .non H', rt := Q } (startN 4 vs) H := by
  obtain ⟨a, f, v, rfl, ha, hf, hv, q⟩ := h
  show t_children_of K _ [some (.ref a), some v, none, none] H
  unfold t_children_of
  have hz := sizeLine_eq
  have hsz := hf.sz
  have hvn : NS v := by
    rcases hv with e | ⟨n, hn, e⟩
    · exact .inl e
    · exact .inr ⟨n, hf.nms n hn, e⟩
  walk_at "rd"
  refine ⟨a, f, rfl, ha, hf, fun d H1 k1 hdn hd => ?_⟩
  walk_at "rd"
  refine ⟨fun σ H2 => Kp H1 H2 ∧ σ = [some (.ref a), some v, some (.ref d), none], ?_, ?_⟩
  · walk_at "rd"
    rcases hv with rfl | ⟨n, hn, rfl⟩
    · simp only [decide_true, Bool.not_true, Bool.false_eq_true, if_false]
      exact ⟨fun _ _ e => e, trivial⟩
    · have e : (!decide (V.str n = V.non)) = true := by simp
      rw [e, if_pos rfl]
      refine ⟨by show 1 ≤ sizeLine; decide, fun p hp => ?_⟩
      generalize hG : upd H1 p _ = H2
      obtain ⟨k2, e2⟩ := gen_new hp hG
      clear hG
      refine ⟨d, p, _, [n], rfl, k2 _ _ hd, SqT.of e2, fun z hz => ?_, k2, trivial⟩
      rw [List.mem_singleton.mp hz, pars_nm]; exact hn
  · rintro σ H2 ⟨k2, rfl⟩
    have hd2 := k2 _ _ hd
    unfold t_children_of_r1
    walk_at "rd"
    rw [o_lockE]
    refine ⟨d, _, hd2, trivial, fun od => ?_⟩
    generalize hG : upd H2 d _ = H3
    obtain ⟨k3, e3⟩ := gen_chg hG
    have hpl : (pars f .non).length = f.nm.length := by rw [← pars_nm f .non, List.length_map]
    walk_at "rd"
    rw [o_keysD]
    walk_at "rd"
    refine ⟨d, od, rfl, .inl ⟨_, e3, ?_⟩⟩
    refine lb_walk walk_keys (fun D i H4 => H3 D = none ∧ Kp H3 H4 ∧ H4 D = some (.lst ((filt ((pars f .non).take i) v).map V.str))) ?_ ?_ ?_ ?_
    · intro D hD
      exact ⟨hD, (show Kp H3 H3 from fun _ _ h => h).new hD, by rw [upd_same]; rfl⟩
    · rintro D i H4 hi ⟨hD, k4, _⟩
      exact k4 _ _ e3
    · rintro D i x H4 H5 hi ⟨hD, k4, h4⟩ ⟨rfl, key, w, hkv, rfl⟩
      rw [List.getElem?_map, Option.map_eq_some_iff] at hkv
      obtain ⟨p, hp, ep⟩ := hkv
      cases ep
      have hi2 := (List.getElem?_eq_some_iff.mp hp).1
      have hm : p ∈ pars f .non := List.mem_of_getElem? hp
      show gName 3 (.str p.1) _ _ _
      walk_at "rd"
      have hg : DGet H5 d (.str p.1) (some p.2) := by
        have h : valV (pk (pars f .non)) (Sum.inr p.1) = some p.2 := pk_some (by rw [pars_nm]; exact hf.nd) hm
        exact .inl ⟨_, Sum.inr p.1, .inr ⟨_, k4 _ _ e3⟩, rfl, h.symm⟩
      refine ⟨d, _, rfl, hg, ?_⟩
      refine ns_eq (pars_ns (.inl rfl) hf.nms p hm) hvn ?_
      walk_at "rd"
      rw [filt_take hp]
      have hle := filt_le ((pars f .non).take i) v
      rw [List.length_take] at hle
      refine ite2 (fun hc => ?_) fun hc => ?_
      · refine ⟨_, h4, by rw [List.length_map]; omega, hD, fun b o e => ?_, ?_⟩
        · rw [upd_ne (ne_of_none e hD)]; exact k4 _ _ e
        · rw [upd_same, if_pos hc]; simp
      · refine ⟨hD, k4, ?_⟩
        rw [if_neg hc, List.append_nil]; exact h4
    · rintro D H4 hD ⟨_, k4, h4⟩
      refine ⟨k4 _ _ e3, ?_⟩
      rw [List.length_map, List.take_length] at h4
      have hDd : D ≠ d := fun e => by rw [e, e3] at hD; cases hD
      generalize hG2 : upd H4 d _ = H5
      obtain ⟨k5, e5⟩ := gen_chg hG2
      have h5 := k5 _ _ h4 hDd
      refine ⟨D, _, rfl, .inl ⟨SqL.of h5, fun p hp => ?_⟩⟩
      generalize hG3 : upd H5 p _ = H6
      obtain ⟨k6, e6⟩ := gen_new hp hG3
      refine q p H6 (fun b o e => k6 _ _ ?_) (SqT.of e6)
      have e1 := k2 _ _ (k1 _ _ e)
      have bd : b ≠ d := fun z => by rw [z, hdn] at e; cases e
      exact k5 _ _ (k4 _ _ (k3 _ _ e1 bd)) bd
end
end Tw
set_option Elab.async false
set_option linter.all false
set_option maxRecDepth 100000
set_option maxHeartbeats 4000000
/-! kids of names, names in their order, a pick -/
namespace Tw
open PySem PySem.Spec PyProof.Rows L2 TL
local macro_rules | `(tactic| walk_at "rd") => `(tactic| try simp only [o_op, o_un, o_var, o_c, o_cb, o_call, o_cons, o_nil, o_tup, o_lst, o_I0, o_I, o_int1, o_intb, o_abs, o_test, o_b, o_not, o_and, o_or, o_andV, o_orV, o_notV, o_ifE, o_isN, o_notN, o_eq, o_ne, o_seq, o_next, o_asg, o_name, o_sub, o_par, o_par3, o_drop, o_ret, o_retN, o_ifS, o_sl, o_noPart, o_part, o_bm, o_bm0, o_m0, o_m1, o_dget, o_dput, o_din, o_dnotin, o_listKeys, e_bl, e_int, e_str, e_some, e_two, e_three, o_for, o_lc, o_iList, o_iTup, o_iRng1, e_int1, e_ref, o_yes, o_wipe0, o_wipe1, o_disp, o_dnew, o_pairs0, o_pairs1, o_lock, o_keysM, o_gtup, o_gcons, o_gnil, o_rU, o_tru, o_revT, o_enumT, o_from, true_and, if_pos, List.getElem?_cons_zero, List.getElem?_cons_succ, List.set_cons_zero, List.set_cons_succ, List.append_nil])
theorem filt_app (a b : List (Str × V)) (v : V) : filt (a ++ b) v = filt a v ++ filt b v := by simp [filt]
theorem filt_cons (n : Str) (t v : V) (r : List (Str × V)) : filt ((n, t) :: r) v = (if t = v then [n] else []) ++ filt r v := by
  by_cases h : t = v <;> simp [filt, List.filter_cons, h]
theorem filt_no : ∀ {f : Fo} {t v : V}, v ≠ t → (∀ n ∈ f.nm, v ≠ .str n) → filt (pars f t) v = []
  | .nil, _, _, _, _ => rfl
  | .cons n ks r, t, v, h1, h2 => by
    rw [pars, filt_cons, if_neg h1.symm, filt_app, filt_no (h2 n (List.mem_cons_self ..)) fun m hm => h2 m (List.mem_cons_of_mem _ (List.mem_append_left _ hm)),
      filt_no h1 fun m hm => h2 m (List.mem_cons_of_mem _ (List.mem_append_right _ hm))]
    rfl
theorem filt_top : ∀ {f : Fo} {t : V}, (∀ n ∈ f.nm, t ≠ .str n) → filt (pars f t) t = f.tops
  | .nil, _, _ => rfl
  | .cons n ks r, t, h => by
    rw [pars, filt_cons, if_pos rfl, filt_app, filt_no (h n (List.mem_cons_self ..)) fun m hm => h m (List.mem_cons_of_mem _ (List.mem_append_left _ hm)),
      filt_top fun m hm => h m (List.mem_cons_of_mem _ (List.mem_append_right _ hm))]
    rfl
theorem filt_rep : ∀ {f : Fo} {t : V}, f.nm.Nodup → (∀ n ∈ f.nm, t ≠ .str n) → Fo.Rep (fun n => filt (pars f t) (.str n)) f
  | .nil, _, _, _ => trivial
  | .cons n ks r, t, nd, h => by
    have nd2 : (n :: (ks.nm ++ r.nm)).Nodup := nd
    rw [List.nodup_cons, List.nodup_append] at nd2
    obtain ⟨hn, ndk, ndr, dis⟩ := nd2
    have hk : ∀ m ∈ ks.nm, t ≠ .str m := fun m hm => h m (List.mem_cons_of_mem _ (List.mem_append_left _ hm))
    have hr : ∀ m ∈ r.nm, t ≠ .str m := fun m hm => h m (List.mem_cons_of_mem _ (List.mem_append_right _ hm))
    have hnt := h n (List.mem_cons_self ..)
    refine ⟨?_, ?_, ?_⟩
    · show filt (pars (.cons n ks r) t) (.str n) = ks.tops
      rw [pars, filt_cons, if_neg hnt, filt_app, filt_top (fun m hm e => hn (List.mem_append_left _ (by rw [V.str.inj e]; exact hm))), filt_no hnt.symm fun m hm e => hn (List.mem_append_right _ (by rw [V.str.inj e]; exact hm))]
      simp
    · refine Fo.Rep.congr (filt_rep (f := ks) (t := .str n) ndk fun m hm e => hn (List.mem_append_left _ (by rw [V.str.inj e]; exact hm))) fun m hm => ?_
      show filt (pars (.cons n ks r) t) (.str m) = _
      rw [pars, filt_cons, if_neg (hk m hm), filt_app, filt_no (f := r) (hk m hm).symm fun l hl e => dis m hm l hl (V.str.inj e)]
      simp
    · refine Fo.Rep.congr (filt_rep (f := r) (t := t) ndr hr) fun m hm => ?_
      show filt (pars (.cons n ks r) t) (.str m) = _
      rw [pars, filt_cons, if_neg (hr m hm), filt_app, filt_no (f := ks) (fun e => hn (List.mem_append_right _ (by rw [← V.str.inj e]; exact hm))) fun l hl e => dis l hl m hm (V.str.inj e).symm]
      simp
/-- what lies right in a node, in the whole for "" -/
def gOf (f : Fo) (n : Str) : List Str := if n = "" then f.tops else filt (pars f .non) (.str n)
theorem gOf_rep {f : Fo} (h : NameOk f) : f.Rep (gOf f) :=
  Fo.Rep.congr (filt_rep (t := .non) h.nd fun n _ e => by cases e) fun n hn => by unfold gOf; rw [if_neg (h.nms n hn).ne]
theorem gOf_in {f : Fo} {k z : Str} (h : z ∈ gOf f k) : (z, if k = "" then V.non else V.str k) ∈ pars f .non := by
  unfold gOf at h
  have key : ∀ v, z ∈ filt (pars f .non) v → (z, v) ∈ pars f .non := fun v hz => by
    obtain ⟨p, hp, e⟩ := List.mem_map.mp hz
    obtain ⟨hp1, hp2⟩ := List.mem_filter.mp hp
    have e2 : p.2 = v := by simpa using hp2
    rw [← e, ← e2]; exact hp1
  by_cases e : k = ""
  · rw [if_pos e] at h ⊢
    rw [← filt_top (f := f) (t := .non) fun n _ e => by cases e] at h
    exact key _ h
  · rw [if_neg e] at h ⊢
    exact key _ h
theorem pars_val : ∀ {f : Fo} {t : V} {p : Str × V}, p ∈ pars f t → p.2 = t ∨ ∃ m ∈ f.nm, p.2 = .str m
  | .cons n ks r, t, p, h => by
    rcases List.mem_cons.mp h with e | h
    · rw [e]; exact .inl rfl
    · rcases List.mem_append.mp h with h | h
      · rcases pars_val h with e | ⟨m, hm, e⟩
        · exact .inr ⟨n, List.mem_cons_self .., e⟩
        · exact .inr ⟨m, List.mem_cons_of_mem _ (List.mem_append_left _ hm), e⟩
      · rcases pars_val h with e | ⟨m, hm, e⟩
        · exact .inl e
        · exact .inr ⟨m, List.mem_cons_of_mem _ (List.mem_append_right _ hm), e⟩
theorem in_gOf {f : Fo} (hf : NameOk f) {z : Str} {v : V} (h : (z, v) ∈ pars f .non) : (v = .non ∧ z ∈ gOf f "") ∨ ∃ m ∈ f.nm, v = .str m ∧ z ∈ gOf f m := by
  have key : z ∈ filt (pars f .non) v := List.mem_map.mpr ⟨(z, v), List.mem_filter.mpr ⟨h, by simp⟩, rfl⟩
  rcases pars_val h with e | ⟨m, hm, e⟩
  · refine .inl ⟨e, ?_⟩
    unfold gOf
    rw [if_pos rfl, ← filt_top (f := f) (t := .non) fun n _ e => by cases e]
    have e2 : v = .non := e
    rw [← e2]; rw [e2] at key ⊢; exact key
  · have e2 : v = .str m := e
    refine .inr ⟨m, hm, e2, ?_⟩
    unfold gOf
    rw [if_neg (hf.nms m hm).ne]
    rw [e2] at key; exact key
theorem gOf_len {f : Fo} (n : Str) : (gOf f n).length ≤ f.nm.length := by
  have hp : (pars f .non).length = f.nm.length := by rw [← pars_nm f .non, List.length_map]
  unfold gOf
  by_cases e : n = ""
  · rw [if_pos e, ← filt_top (f := f) (t := .non) fun n _ e => by cases e]
    have := filt_le (pars f .non) .non
    omega
  · rw [if_neg e]
    have := filt_le (pars f .non) (.str n)
    omega
/-! ### kids -/
def sp_l_kids (K : PySem.W.Frag) : Sp := fun vs H Q _ => ∃ a f, vs = [.ref a] ∧ WoodAt K H a f ∧ NameOk f ∧ ∀ (d : Addr) (H' : Hp) (ks : List Str) (at_ : Str → Addr), Kp H H' → H d = none → (∀ n ∈ ks, H (at_ n) = none) → Kids H' d ks (gOf f) at_ → (∀ n, n ∈ ks ↔ n = "" ∨ n ∈ f.nm) → ks.length ≤ 1001 → Q (.ref d) H'
def t_l_kids_b1 (K : PySem.W.Frag) : TS :=
  (tSeq (tAsg (tBM0 K "list" rPop (tVar 2)) (gTup K 2 (gCons (gName 3) (gCons (gName 4) gNil))))
  (tSeq (sDPut (tVar 1) (tVar 3) (tLc (iTup K (tVar 4)) (gName 5) tYes (tOp (rIxT K) (tVar 5) (tC (.int 0))) [5]))
  (tDrop (tBM K "list" (rExtendT K) (tVar 2) (tCons (tVar 4) tNil)))))
def t_l_kids (K : PySem.W.Frag) : TS :=
  (tSeq (tAsg (tDisp [((tC (.str "")), (tLc (iTup K (tVar 0)) (gName 5) tYes (tOp (rIxT K) (tVar 5) (tC (.int 0))) [5]))]) (gName 1))
  (tSeq (tAsg (tCB (rListOf K) (tCons (tVar 0) tNil)) (gName 2))
  (tSeq (tWhile (tTest (tOp (rNeB K) (tVar 2) (tLst tNil)))
  (t_l_kids_b1 K))
  (tRet (tVar 1)))))
section
variable {K : PySem.W.Frag}
theorem len_l_kids (vs : List V) (H : Hp) (Q : VK) (E : XK) (h : sp_l_kids K vs H Q E) : vs.length = 1 := by
  obtain ⟨_, _, rfl, _⟩ := h; rfl
theorem Rp.tree {H : Hp} : ∀ {i : Nat} {vs : List V} {f : Fo} {n : Str}, Rp K H vs f → f.tops[i]? = some n → ∃ (t k : Addr), vs[i]? = some (.ref t) ∧ SqT K H t [.str n, .ref k]
  | _, _, _, _, .nil, h => by simp [Fo.tops] at h
  | 0, _, _, _, .cons (t := t) (k := k) a _ _ _, h => by
    have e := Option.some.inj (show some _ = some _ from h)
    exact ⟨t, k, rfl, by rw [← e]; exact a⟩
  | i + 1, _, _, _, .cons _ _ _ d, h => by
    obtain ⟨t, k, h1, h2⟩ := Rp.tree (i := i) d (by simpa [Fo.tops] using h)
    exact ⟨t, k, by simpa using h1, h2⟩
theorem lc_tops {H : Hp} {a : Addr} {vs : List V} {f : Fo} {s0 s1 s2 s3 s4 s5 : Option V} {Q : VK} (ha : SqT K H a vs) (rp : Rp K H vs f) (hl : f.tops.length ≤ 100000) (q : ∀ D H', Kp H H' → H D = none → H' D = some (.lst (f.tops.map V.str)) → Q (.ref D) H') :
    LcB (Itt K a) (gName 5) tYes (tOp (rIxT K) (tVar 5) (tC (.int 0))) [5] [s0, s1, s2, s3, s4, s5] H Q := by
  have hz := sizeLine_eq
  refine lb_walk (n := vs.length) walk_tup (fun D i H2 => H D = none ∧ Kp H H2 ∧ H2 D = some (.lst ((f.tops.take i).map V.str))) ?_ ?_ ?_ ?_
  · intro D hD
    exact ⟨hD, (show Kp H H from fun _ _ h => h).new hD, by rw [upd_same]; rfl⟩
  · rintro D i H2 hi ⟨hD, k2, _⟩
    exact Tk.kp k2 _ _ ha
  · rintro D i x H2 H3 hi ⟨hD, k2, h2⟩ ⟨rfl, hx⟩
    have hit : i < f.tops.length := by rw [← rp.len]; exact hi
    obtain ⟨n, hn⟩ : ∃ n, f.tops[i]? = some n := ⟨_, List.getElem?_eq_getElem hit⟩
    obtain ⟨t, k, h1, h3⟩ := rp.tree hn
    rw [hx] at h1
    cases h1
    show gName 5 (.ref t) _ _ _
    walk_at "rd"
    refine ⟨t, _, 0, .str n, rfl, rfl, Tk.kp k2 _ _ h3, atI_nat (j := 0) rfl, ?_⟩
    refine ⟨_, h2, by rw [List.length_map, List.length_take]; omega, hD, fun b o e => ?_, ?_⟩
    · rw [upd_ne (ne_of_none e hD)]; exact k2 _ _ e
    · rw [upd_same, List.take_add_one, hn]; simp
  · rintro D H2 hD ⟨_, k2, h2⟩
    rw [rp.len, List.take_length] at h2
    exact q D H2 k2 hD h2
theorem Kids.add {H H1 : Hp} {d p : Addr} {ks : List Str} {g : Str → List Str} {at_ : Str → Addr} {x : Str} (k : Kids H d ks g at_) (hx : x ∉ ks) (hp : H p = none) (h : ∀ b o, H b = some o → b ≠ d → H1 b = some o) (h1 : H1 p = some (.lst ((g x).map V.str)))
    (hd : H1 d = some (.dK (kvs (ks ++ [x]) fun n => .ref (if n = x then p else at_ n)))) : Kids H1 d (ks ++ [x]) g (fun n => if n = x then p else at_ n) := by
  have hdn : ∀ n ∈ ks, at_ n ≠ d := fun n hn e => by have := k.lists n hn; rw [e, k.dict] at this; cases this
  have hpn : ∀ n ∈ ks, at_ n ≠ p := fun n hn e => by have := k.lists n hn; rw [e, hp] at this; cases this
  have old : ∀ n ∈ ks ++ [x], n ≠ x → n ∈ ks := fun n hn z => by
    rcases List.mem_append.mp hn with y | y
    · exact y
    · exact absurd (List.mem_singleton.mp y) z
  refine ⟨hd, fun n hn => ?_, fun n hn m hm e => ?_, nodup_snoc k.nd hx⟩
  · show H1 (if n = x then p else at_ n) = _
    by_cases e : n = x
    · rw [if_pos e, e]; exact h1
    · rw [if_neg e]
      exact h _ _ (k.lists n (old n hn e)) (hdn n (old n hn e))
  · have e : (if n = x then p else at_ n) = (if m = x then p else at_ m) := e
    by_cases a1 : n = x <;> by_cases b1 : m = x
    · rw [a1, b1]
    · rw [if_pos a1, if_neg b1] at e; exact absurd e.symm (hpn m (old m hm b1))
    · rw [if_neg a1, if_pos b1] at e; exact absurd e (hpn n (old n hn a1))
    · rw [if_neg a1, if_neg b1] at e; exact k.inj n (old n hn a1) m (old m hm b1) e
theorem Fo.nm_app : ∀ f g : Fo, (f.app g).nm = f.nm ++ g.nm
  | .nil, _ => rfl
  | .cons n ks r, g => by simp only [Fo.app, Fo.nm, Fo.nm_app r g, List.cons_append, List.append_assoc]
theorem Fo.Rep.app {g : Str → List Str} : ∀ {a b : Fo}, a.Rep g → b.Rep g → (a.app b).Rep g
  | .nil, _, _, h => h
  | .cons _ _ _, _, ⟨h1, h2, h3⟩, h => ⟨h1, h2, Fo.Rep.app h3 h⟩
theorem Fo.Rep.left {g : Str → List Str} : ∀ {a b : Fo}, (a.app b).Rep g → a.Rep g ∧ b.Rep g
  | .nil, _, h => ⟨trivial, h⟩
  | .cons _ _ _, _, ⟨h1, h2, h3⟩ => ⟨⟨h1, h2, (Fo.Rep.left h3).1⟩, (Fo.Rep.left h3).2⟩
/-- a forest that is not empty has a last tree -/
theorem Fo.last : ∀ f : Fo, f = .nil ∨ ∃ (g : Fo) (n : Str) (ks : Fo), f = g.app (.cons n ks .nil)
  | .nil => .inl rfl
  | .cons n ks r => by
    rcases Fo.last r with e | ⟨g, m, k2, e⟩
    · exact .inr ⟨.nil, n, ks, by rw [e]; rfl⟩
    · exact .inr ⟨.cons n ks g, m, k2, by rw [e]; rfl⟩
theorem o_neNil {a b : Addr} {vs : List V} {f : Fo} {H : Hp} {Q : VK} (ha : H a = some (.lst vs)) (rp : Rp K H vs f) (hb : H b = some (.lst [])) (hn : ∀ z ∈ f.nm, IsName z) (q : Q (.bl (!vs.isEmpty)) H) : rNeB K (.ref a) (.ref b) H Q := by
  refine ⟨.list f.data, .list [], .lst (SqL.of ha) rp.dp, .lst (SqL.of hb) .nil, ?_, by simp [PyData.canLay0, PyData.canLayAll0], ?_, ?_⟩
  · rw [PyData.canLay0]; exact data_lay f hn
  · simp only [PyData.depth, PyData.depthAll]; omega
  · have e : PyData.eqv (.list f.data) (.list []) = vs.isEmpty := by
      cases rp with
      | nil => simp [Fo.data, PyData.eqv, PyData.eqvAll]
      | cons _ _ _ _ => simp [Fo.data, PyData.eqv, PyData.eqvAll]
    rw [e]; exact q
theorem tops_le : ∀ f : Fo, f.tops.length ≤ f.nm.length
  | .nil => Nat.le_refl _
  | .cons n ks r => by have := tops_le r; simp only [Fo.tops, Fo.nm, List.length_cons, List.length_append]; omega
/-- the loop's state: done keys, trees that wait -/
def KidInv (K : PySem.W.Frag) (H : Hp) (a d wn : Addr) (f : Fo) (m : Nat) (σ : L2.St) (H4 : Hp) : Prop :=
  ∃ ks at_ ws fw x y z, Kp H H4 ∧ H d = none ∧ H wn = none ∧ ("" : Str) ∈ ks ∧ (∀ n ∈ ks, H (at_ n) = none) ∧ Kids H4 d ks (gOf f) at_ ∧ (∀ n ∈ ks, at_ n ≠ wn) ∧ H4 wn = some (.lst ws) ∧ Rp K H4 ws fw ∧ fw.Rep (gOf f) ∧ (ks ++ fw.nm).Perm ("" :: f.nm) ∧ m = fw.nm.length ∧
    σ = [some (.ref a), some (.ref d), some (.ref wn), x, y, z]
theorem pure_l_kids (vs : List V) (H : Hp) (Q : VK) (E : XK) (h : sp_l_kids K vs H Q E) : t_l_kids K { nx := fun _ H' => Q .non H', rt := Q } (startN 6 vs) H := by
  obtain ⟨a, f, rfl, ⟨fv, ha, rp⟩, hf, q⟩ := h
  show t_l_kids K _ [some (.ref a), none, none, none, none, none] H
  unfold t_l_kids
  have hz := sizeLine_eq
  have hsz := hf.sz
  have htl := tops_le f
  have hall : (("" : Str) :: f.nm).Nodup := List.nodup_cons.mpr ⟨fun hm => (hf.nms "" hm).ne rfl, hf.nd⟩
  walk_at "rd"
  intro d hdn
  generalize hG : upd H d _ = H1
  obtain ⟨k1, e1⟩ := gen_new hdn hG
  clear hG
  refine ⟨⟨_, Tk.kp k1 _ _ ha⟩, ?_⟩
  refine lc_tops (Tk.kp k1 _ _ ha) (rp.mono (Tk.kp k1)) (by omega) fun l H2 k2 hl e2 => ?_
  refine ⟨k2 _ _ e1, [((Sum.inr ("" : Str) : Key), .ref l)], rfl, by show 1 ≤ 15; decide, ?_⟩
  generalize hG : upd H2 d _ = H3
  obtain ⟨k3, e3⟩ := gen_chg hG
  clear hG
  have hdl : d ≠ l := ne_of_none e1 hl
  have k03 : Kp H H3 := fun b o e => k3 _ _ (k2 _ _ (k1 _ _ e)) (ne_of_none e hdn)
  walk_at "rd"
  refine ⟨a, _, rfl, .inr (Tk.kp k03 _ _ ha), fun wn hwn => ?_⟩
  generalize hG : upd H3 wn _ = H4
  obtain ⟨k4, e4⟩ := gen_new hwn hG
  clear hG
  have k04 : Kp H H4 := fun b o e => k4 _ _ (k03 _ _ e)
  have l3 := k3 _ _ e2 hdl.symm
  have lwn : l ≠ wn := ne_of_none l3 hwn
  have dwn : d ≠ wn := ne_of_none e3 hwn
  walk_at "rd"
  refine ⟨KidInv K H a d wn f, ⟨_, [""], fun _ => l, fv, f, _, _, _, k04, hdn, Kp.free k03 hwn, List.mem_singleton.mpr rfl, fun n _ => Kp.free k1 hl, ⟨?_, ?_, ?_, by simp⟩, fun n _ => lwn, e4, rp.mono (Tk.kp k04), gOf_rep hf, by simp, rfl, rfl⟩, ?_⟩
  · rw [k4 _ _ e3]; rfl
  · intro n hn
    rw [List.mem_singleton.mp hn]
    exact k4 _ _ l3
  · intro n hn m hm _
    rw [List.mem_singleton.mp hn, List.mem_singleton.mp hm]
  · rintro m σ H5 ⟨ks, at_, ws, fw, x, y, z, k5, _, hwnH, h0, hatn, kd, hwat, hw5, rpw, rep, perm, rfl, rfl⟩
    walk_at "rd"
    refine ⟨by show 0 ≤ sizeLine; omega, fun nl hnl => ?_⟩
    generalize hG : upd H5 nl _ = H6
    obtain ⟨k6, e6⟩ := gen_new hnl hG
    clear hG
    have hnames : ∀ z ∈ fw.nm, IsName z := fun z hz => by
      have : z ∈ ("" : Str) :: f.nm := perm.mem_iff.mp (List.mem_append_right _ hz)
      rcases List.mem_cons.mp this with e | h
      · have nd := perm.nodup_iff.mpr hall
        exact absurd rfl ((List.nodup_append.mp nd).2.2 _ h0 _ (e ▸ hz))
      · exact hf.nms z h
    have rp6 := rpw.mono (Tk.kp k6)
    refine o_neNil (k6 _ _ hw5) rp6 e6 hnames ?_
    walk_at "rd"
    have hlen := perm.length_eq
    rw [List.length_append, List.length_cons] at hlen
    rcases Fo.last fw with rfl | ⟨g, n, kk, rfl⟩
    · cases rpw
      simp only [List.isEmpty_nil, Bool.not_true, Bool.false_eq_true, if_false]
      refine q d H6 ks at_ (fun b o e => k6 _ _ (k5 _ _ e)) hdn hatn (kd.kp k6) (fun n => ?_) ?_
      · have := perm.mem_iff (a := n)
        simpa [Fo.nm] using this
      · simp only [Fo.nm, List.length_nil] at hlen; omega
    · obtain ⟨v1, v2, rfl, r1, r2⟩ := rp6.split
      cases r2 with
      | @cons t k _ kvs _ _ _ at2 ak rk rn =>
      cases rn
      have hne : (!(v1 ++ [V.ref t]).isEmpty) = true := by simp
      rw [hne, if_pos rfl]
      rw [Fo.nm_app] at perm
      have hfin : (g.app (.cons n kk .nil)).nm.length = g.nm.length + kk.nm.length + 1 := by rw [Fo.nm_app]; simp [Fo.nm]; omega
      refine ⟨KidInv K H a d wn f (g.nm.length + kk.nm.length), fun σ' H' w => ⟨_, by omega, w⟩, ?_⟩
      unfold t_l_kids_b1
      walk_at "rd"
      have hw6 := k6 _ _ hw5
      refine ⟨.inl ⟨rfl, _, SqL.of hw6⟩, wn, _, .ref t, rfl, rfl, hw6, by simp, ?_⟩
      rw [List.dropLast_concat]
      generalize hG : upd H6 wn _ = H7
      obtain ⟨k7, e7⟩ := gen_chg hG
      clear hG
      have t67 : Tk K H6 H7 := Tk.but (.inl ⟨_, hw6⟩) k7
      walk_at "rd"
      refine ⟨t, _, rfl, t67 _ _ at2, rfl, _, _, rfl, _, _, rfl, rfl, ?_⟩
      have ak7 := t67 _ _ ak
      walk_at "rd"
      refine ⟨⟨_, ak7⟩, ?_⟩
      have hkl := tops_le kk
      rw [hfin] at hlen
      refine lc_tops ak7 (rk.mono t67) (by omega) fun p H8 k8 hp e8 => ?_
      have hnk : n ∉ ks := by
        have nd := perm.nodup_iff.mpr hall
        rw [← List.append_assoc] at nd
        intro hm
        exact (List.nodup_append.mp nd).2.2 n (List.mem_append_left _ hm) n (List.mem_cons_self ..) rfl
      have kd7 : Kids H7 d ks (gOf f) at_ := ⟨k7 _ _ (k6 _ _ kd.dict) dwn, fun n hn => k7 _ _ (k6 _ _ (kd.lists n hn)) (hwat n hn), kd.inj, kd.nd⟩
      have kd8 := kd7.kp k8
      refine ⟨d, _, rfl, DPut.k (k := (Sum.inr n : Key)) kd8.dict (by rw [kvs_len]; omega), ?_⟩
      rw [put_new _ _ _ _ hnk]
      generalize hG : upd H8 d _ = H9
      obtain ⟨k9, e9⟩ := gen_chg hG
      clear hG
      have t89 : Tk K H8 H9 := Tk.but (.inr (.inl ⟨_, kd8.dict⟩)) k9
      have hpd : p ≠ d := fun e => by rw [e, kd7.dict] at hp; cases hp
      have hpw : p ≠ wn := fun e => by rw [e, e7] at hp; cases hp
      have e89 := k9 _ _ e8 hpd
      have hgn : gOf f n = kk.tops := by
        have := (Fo.Rep.left rep).2
        exact this.1
      have w9 := k9 _ _ (k8 _ _ e7) dwn.symm
      have t79 : Tk K H7 H9 := (Tk.kp k8).trans t89
      refine ⟨.inl ⟨rfl, _, SqL.of w9⟩, wn, k, _, _, rfl, rfl, w9, t79 _ _ ak7, by rw [r1.len, rk.len]; have := tops_le g; omega, ?_⟩
      generalize hG : upd H9 wn _ = H10
      obtain ⟨k10, e10⟩ := gen_chg hG
      clear hG
      have t910 : Tk K H9 H10 := Tk.but (.inl ⟨_, w9⟩) k10
      have t610 : Tk K H6 H10 := (t67.trans t79).trans t910
      have kd9 : Kids H9 d (ks ++ [n]) (gOf f) (fun m => if m = n then p else at_ m) := by
        refine kd7.add hnk hp (fun b o e nb => k9 _ _ (k8 _ _ e) nb) (by rw [hgn]; exact e89) ?_
        rw [e9]
        congr 3
        funext m; split <;> rfl
      have hat9 : ∀ m ∈ ks ++ [n], (if m = n then p else at_ m) ≠ wn := fun m hm => by
        by_cases e : m = n
        · rw [if_pos e]; exact hpw
        · rw [if_neg e]
          rcases List.mem_append.mp hm with h | h
          · exact hwat m h
          · exact absurd (List.mem_singleton.mp h) e
      refine ⟨ks ++ [n], fun m => if m = n then p else at_ m, _, g.app kk, _, _, _, fun b o e => k10 _ _ (k9 _ _ (k8 _ _ (k7 _ _ (k6 _ _ (k5 _ _ e)) (ne_of_none e hwnH))) (ne_of_none e hdn)) (ne_of_none e hwnH), hdn, hwnH, List.mem_append_left _ h0, fun m hm => ?_, ⟨k10 _ _ kd9.dict dwn, fun m hm => k10 _ _ (kd9.lists m hm) (hat9 m hm), kd9.inj, kd9.nd⟩, hat9, e10, Rp.app (r1.mono t610) (rk.mono t610), Fo.Rep.app (Fo.Rep.left rep).1 (Fo.Rep.left rep).2.2.1, ?_, by rw [Fo.nm_app, List.length_append], rfl⟩
      · show H (if m = n then p else at_ m) = none
        by_cases e : m = n
        · rw [if_pos e]
          exact Kp.free (fun b o e => k7 _ _ (k6 _ _ (k5 _ _ e)) (ne_of_none e hwnH)) hp
        · rw [if_neg e]
          rcases List.mem_append.mp hm with h | h
          · exact hatn m h
          · exact absurd (List.mem_singleton.mp h) e
      · rw [Fo.nm_app]
        refine List.Perm.trans ?_ perm
        rw [List.append_assoc]
        refine List.Perm.append_left _ ?_
        show ([n] ++ (g.nm ++ kk.nm)).Perm (g.nm ++ (n :: (kk.nm ++ [])))
        rw [List.append_nil]
        exact (List.perm_middle (l₁ := g.nm)).symm
end
end Tw
set_option Elab.async false
set_option linter.all false
set_option maxRecDepth 100000
set_option maxHeartbeats 4000000
/-! names in their order, a pick -/
namespace Tw
open PySem PySem.Spec PyProof.Rows L2 TL
local macro_rules | `(tactic| walk_at "rd") => `(tactic| try simp only [o_op, o_un, o_var, o_c, o_cb, o_call, o_cons, o_nil, o_tup, o_lst, o_I0, o_I, o_int1, o_intb, o_abs, o_test, o_b, o_not, o_and, o_or, o_andV, o_orV, o_notV, o_ifE, o_isN, o_notN, o_eq, o_ne, o_seq, o_next, o_asg, o_name, o_sub, o_par, o_par3, o_drop, o_ret, o_retN, o_ifS, o_sl, o_noPart, o_part, o_bm, o_bm0, o_m0, o_m1, o_dget, o_dput, o_din, o_dnotin, o_listKeys, e_bl, e_int, e_str, e_some, e_two, e_three, o_for, o_lc, o_iList, o_iTup, o_iRng1, e_int1, e_ref, o_yes, o_wipe0, o_wipe1, o_disp, o_dnew, o_pairs0, o_pairs1, o_lock, o_keysM, o_gtup, o_gcons, o_gnil, o_rU, o_tru, o_revT, o_enumT, o_from, true_and, if_pos, List.getElem?_cons_zero, List.getElem?_cons_succ, List.set_cons_zero, List.set_cons_succ, List.append_nil])
/-- the promise of the names in their order, by the depth of the wood -/
def spP (K : PySem.W.Frag) : Nat → Sp
  | 0 => fun _ _ _ _ => False
  | m + 1 => fun vs H Q _ => ∃ (a : Addr) (f : Fo), vs = [.ref a] ∧ WoodAt K H a f ∧ f.dp ≤ m ∧ f.nm.length ≤ 1000 ∧ ∀ (p : Addr) (H' : Hp), Kp H H' → H p = none → H' p = some (.lst (f.nm.map V.str)) → Q (.ref p) H'
def sp_l_pick (K : PySem.W.Frag) : Sp := fun vs H Q _ => ∃ (a l : Addr) (xs : List V), vs = [.ref a, .ref l] ∧ DeckAt H a ∧ SqL K H l xs ∧ l ≠ a ∧ xs ≠ [] ∧ xs.length ≤ 1000000 ∧ ∀ (x : V) (H' : Hp), x ∈ xs → Dk a H H' → Q x H'
def t_l_preorder_b1 (K : PySem.W.Frag) (rec : Sp) : TS :=
  (tAsg (tOp rCat (tOp rCat (tVar 1) (tLst (tCons (tVar 2) tNil))) (tCall rec [] E0 (tCons (tVar 3) tNil))) (gName 1))
def t_l_preorder (K : PySem.W.Frag) (rec : Sp) : TS :=
  (tSeq (tAsg (tLst tNil) (gName 1))
  (tSeq (tFor (iTup K (tVar 0)) (gTup K 2 (gCons (gName 2) (gCons (gName 3) gNil)))
  (t_l_preorder_b1 K rec))
  (tRet (tVar 1))))
def t_l_pick (K : PySem.W.Frag) : TS :=
  (tRet (tOp (rIxL K) (tVar 1) (tCall sp_l_draw [] E0 (tCons (tVar 0) (tCons (tCB (rLenSeq K) (tCons (tVar 1) tNil)) tNil)))))
section
variable {K : PySem.W.Frag}
theorem len_spP {m : Nat} (vs : List V) (H : Hp) (Q : VK) (E : XK) (h : spP K m vs H Q E) : vs.length = 1 := by
  cases m with
  | zero => exact False.elim h
  | succ m =>
    obtain ⟨_, _, rfl, _⟩ := h
    rfl
theorem len_l_pick (vs : List V) (H : Hp) (Q : VK) (E : XK) (h : sp_l_pick K vs H Q E) : vs.length = 2 := by
  obtain ⟨_, _, _, rfl, _⟩ := h
  rfl
theorem pure_l_pick (vs : List V) (H : Hp) (Q : VK) (E : XK) (h : sp_l_pick K vs H Q E) : t_l_pick K { nx := fun _ H' => Q .non H', rt := Q } (startN 2 vs) H := by
  obtain ⟨a, l, xs, rfl, hd, hl, hla, hne, hsz, q⟩ := h
  show t_l_pick K _ [some (.ref a), some (.ref l)] H
  unfold t_l_pick
  walk_at "rd"
  refine ⟨l, _, rfl, .inl hl, ?_⟩
  have h1 : 1 ≤ xs.length := by cases xs with | nil => exact absurd rfl hne | cons _ _ => simp
  refine o_draw hd (by omega) (by omega) fun c H1 c0 c1 k1 => ?_
  obtain ⟨j, rfl⟩ : ∃ j : Nat, c = (j : Int) := ⟨c.toNat, by omega⟩
  have hj : j < xs.length := by omega
  exact o_ixLq (SqL.keep hl hla k1.keep) (atI_nat (v := xs[j]) (List.getElem?_eq_getElem hj)) (q _ H1 (List.getElem_mem hj) k1)
/-- a pick of a text -/
theorem o_pick {a l : Addr} {zs : List Str} {H : Hp} {Q : VK} {E : XK} (hd : DeckAt H a) (hl : H l = some (.lst (zs.map V.str))) (hla : l ≠ a) (hne : zs ≠ []) (hsz : zs.length ≤ 1000000) (q : ∀ (z : Str) (H' : Hp), z ∈ zs → Dk a H H' → Q (.str z) H') : sp_l_pick K [.ref a, .ref l] H Q E := by
  refine ⟨a, l, _, rfl, hd, SqL.of hl, hla, fun e => hne (List.map_eq_nil_iff.mp e), by rw [List.length_map]; exact hsz, fun x H' hx k => ?_⟩
  obtain ⟨z, hz, rfl⟩ := List.mem_map.mp hx
  exact q z H' hz k
theorem nm_take {n : Str} {ks r : Fo} : ∀ {i : Nat} {f : Fo}, f.fdrop i = .cons n ks r → (f.ftake (i + 1)).nm = (f.ftake i).nm ++ n :: ks.nm
  | 0, f, e => by
    have e2 : f = .cons n ks r := e
    subst e2
    simp [Fo.ftake, Fo.nm]
  | i + 1, .nil, e => by cases e
  | i + 1, .cons m ks' r', e => by
    have h := nm_take (i := i) (f := r') e
    simp only [Fo.ftake, Fo.nm] at h ⊢
    rw [h]; simp
theorem drop_len {n : Str} {ks r : Fo} : ∀ {i : Nat} {f : Fo}, f.fdrop i = .cons n ks r → ks.dp + 1 ≤ f.dp ∧ ks.nm.length + 1 ≤ f.nm.length
  | 0, f, e => by
    have e2 : f = .cons n ks r := e
    subst e2
    exact ⟨by simp only [Fo.dp]; omega, by simp only [Fo.nm, List.length_cons, List.length_append]; omega⟩
  | i + 1, .nil, e => by cases e
  | i + 1, .cons m ks' r', e => by
    obtain ⟨h2, h4⟩ := drop_len (i := i) (f := r') e
    exact ⟨by simp only [Fo.dp]; omega, by simp only [Fo.nm, List.length_cons, List.length_append]; omega⟩
theorem pure_l_preorder {m : Nat} (vs : List V) (H : Hp) (Q : VK) (E : XK) (h : spP K (m + 1) vs H Q E) : t_l_preorder K (spP K m) { nx := fun _ H' => Q .non H', rt := Q } (startN 4 vs) H := by
  obtain ⟨a, f, rfl, hw, hdp, hsz, q⟩ := h
  show t_l_preorder K _ _ [some (.ref a), none, none, none] H
  unfold t_l_preorder
  have hz := sizeLine_eq
  walk_at "rd"
  refine ⟨Nat.zero_le _, fun p0 hp0 => ?_⟩
  generalize hG : upd H p0 _ = H1
  obtain ⟨k1, e1⟩ := gen_new hp0 hG
  clear hG
  walk_at "rd"
  obtain ⟨ws, hws, rp⟩ := hw
  refine ⟨⟨_, Tk.kp k1 _ _ hws⟩, ?_⟩
  refine fb_tup (xs := ws) (fun i σ H2 => Kp H H2 ∧ ∃ p x y, H p = none ∧ H2 p = some (.lst ((f.ftake i).nm.map V.str)) ∧ σ = [some (.ref a), some (.ref p), x, y]) ?_ ?_ ?_ ?_
  · exact ⟨k1, p0, _, _, hp0, e1, rfl⟩
  · rintro i σ H2 _ ⟨k2, _⟩
    exact Tk.kp k2 _ _ hws
  · rintro i x σ H2 hx ⟨k2, p, y1, y2, hpn, hp, rfl⟩
    obtain ⟨t, k, n, kvs, ks, r, rfl, hf, ht, hk, hr⟩ := rp.at hx
    walk_at "rd"
    refine ⟨t, _, rfl, Tk.kp k2 _ _ ht, rfl, _, _, rfl, _, _, rfl, rfl, ?_⟩
    have hin := drop_len hf
    have hlen1 : ((f.ftake i).nm.map V.str).length ≤ 1000 := by
      rw [List.length_map]; have := nm_take_le (i := i) (f := f); omega
    unfold t_l_preorder_b1
    walk_at "rd"
    refine ⟨by show 1 ≤ sizeLine; omega, fun p1 hp1 => ?_⟩
    generalize hG : upd H2 p1 _ = H3
    obtain ⟨k3, e3⟩ := gen_new hp1 hG
    clear hG
    refine ⟨p, p1, _, _, rfl, rfl, k3 _ _ hp, e3, by simp only [List.length_cons, List.length_nil]; omega, fun p2 hp2 => ?_⟩
    generalize hG : upd H3 p2 _ = H4
    obtain ⟨k4, e4⟩ := gen_new hp2 hG
    clear hG
    have k24 : Kp H2 H4 := fun b o e => k4 _ _ (k3 _ _ e)
    have k04 : Kp H H4 := fun b o e => k24 _ _ (k2 _ _ e)
    cases m with
    | zero => omega
    | succ m =>
      refine ⟨k, ks, rfl, ⟨kvs, Tk.kp k04 _ _ hk, hr.mono (Tk.kp k04)⟩, by omega, by omega, fun p5 H5 k5 hp5 h5 => ?_⟩
      refine ⟨p2, p5, _, _, rfl, rfl, k5 _ _ e4, h5, by simp only [List.length_cons, List.length_nil, List.length_append, List.length_map] at hlen1 ⊢; omega, fun p6 hp6 => ?_⟩
      generalize hG : upd H5 p6 _ = H6
      obtain ⟨k6, e6⟩ := gen_new hp6 hG
      clear hG
      refine ⟨fun b o e => k6 _ _ (k5 _ _ (k04 _ _ e)), p6, _, _, Kp.free (fun b o e => k5 _ _ (k04 _ _ e)) hp6, ?_, rfl⟩
      rw [nm_take hf, e6]
      simp
  · rintro σ H2 ⟨k2, p, y1, y2, hpn, hp, rfl⟩
    walk_at "rd"
    rw [rp.len, ftake_all] at hp
    exact q p H2 k2 hpn hp
end
end Tw
set_option Elab.async false
set_option linter.all false
set_option maxRecDepth 100000
set_option maxHeartbeats 4000000
/-! skeletons and gaps -/
namespace Tw
open PySem PySem.Spec PyProof.Rows L2 TL
local macro_rules | `(tactic| walk_at "rd") => `(tactic| try simp only [o_op, o_un, o_var, o_c, o_cb, o_call, o_cons, o_nil, o_tup, o_lst, o_I0, o_I, o_int1, o_intb, o_abs, o_test, o_b, o_not, o_and, o_or, o_andV, o_orV, o_notV, o_ifE, o_isN, o_notN, o_eq, o_ne, o_seq, o_next, o_asg, o_name, o_sub, o_par, o_par3, o_drop, o_ret, o_retN, o_ifS, o_sl, o_noPart, o_part, o_bm, o_bm0, o_m0, o_m1, o_dget, o_dput, o_din, o_dnotin, o_listKeys, e_bl, e_int, e_str, e_some, e_two, e_three, o_for, o_lc, o_iList, o_iTup, o_iRng1, e_int1, e_ref, o_yes, o_wipe0, o_wipe1, o_disp, o_dnew, o_pairs0, o_pairs1, o_lock, o_keysM, o_gtup, o_gcons, o_gnil, o_rU, o_tru, o_revT, o_enumT, o_from, true_and, if_pos, List.getElem?_cons_zero, List.getElem?_cons_succ, List.set_cons_zero, List.set_cons_succ, List.append_nil])
namespace Fo
/-- the wood of the names in S alone -/
def skel (S : List Str) : Fo → Fo
  | nil => nil
  | cons n ks r => if n ∈ S then cons n (skel S ks) (skel S r) else (skel S ks).app (skel S r)
theorem erow_app : ∀ f g : Fo, (f.app g).erow = f.erow ++ g.erow
  | nil, _ => rfl
  | cons n ks r, g => by simp only [app, erow, erow_app r g, List.cons_append, List.append_assoc]
theorem erow_skel (S : List Str) : ∀ f : Fo, (skel S f).erow = f.erow.filter fun e => decide (e.2 ∈ S)
  | nil => rfl
  | cons n ks r => by
    unfold skel
    by_cases h : n ∈ S
    · rw [if_pos h]
      simp only [erow, List.filter_cons, h, decide_true, if_true, List.filter_append, erow_skel S ks, erow_skel S r]
    · rw [if_neg h, erow_app, erow_skel S ks, erow_skel S r]
      simp only [erow, List.filter_cons, h, decide_false, Bool.false_eq_true, if_false, List.filter_append]
theorem nm_skel (S : List Str) (f : Fo) : (skel S f).nm = f.nm.filter fun n => decide (n ∈ S) := by
  rw [← pls_row, erow_skel, ← pls_row]
  unfold pls
  rw [List.filter_filter, List.filter_map, List.filter_filter]
  congr 1
  congr 1
  funext e
  exact Bool.and_comm _ _
end Fo
theorem NameOk.skel {f : Fo} (h : NameOk f) (S : List Str) : NameOk (f.skel S) := by
  have e := Fo.nm_skel S f
  refine ⟨by rw [e]; exact h.nd.filter _, fun z hz => ?_, ?_⟩
  · rw [e] at hz
    exact h.nms z (List.mem_filter.mp hz).1
  · rw [e]
    have := List.length_filter_le (fun n => decide (n ∈ S)) f.nm
    have := h.sz
    omega
theorem Fo.dp_app : ∀ f g : Fo, (f.app g).dp = max f.dp g.dp
  | .nil, g => by simp [Fo.app, Fo.dp]
  | .cons n ks r, g => by simp only [Fo.app, Fo.dp, Fo.dp_app r g]; omega
theorem Fo.dp_skel (S : List Str) : ∀ f : Fo, (f.skel S).dp ≤ f.dp
  | .nil => Nat.le_refl _
  | .cons n ks r => by
    have h1 := Fo.dp_skel S ks
    have h2 := Fo.dp_skel S r
    unfold Fo.skel
    split
    · simp only [Fo.dp]; omega
    · rw [Fo.dp_app]; simp only [Fo.dp]; omega
/-- the ends between those of S -/
def gapL (S : List Str) : List En → List Str → List (List Str)
  | [], cur => [cur]
  | e :: es, cur => if e.2 ∈ S then cur :: gapL S es [] else gapL S es (cur ++ [en e])
theorem gapL_cons (S : List Str) (e : En) (es : List En) (cur : List Str) : gapL S (e :: es) cur = if e.2 ∈ S then cur :: gapL S es [] else gapL S es (cur ++ [en e]) := rfl
theorem gapL_len (S : List Str) : ∀ (es : List En) (cur : List Str), (gapL S es cur).length ≤ es.length + 1
  | [], _ => Nat.le_refl _
  | e :: es, cur => by
    unfold gapL
    split
    · have := gapL_len S es []; simp only [List.length_cons]; omega
    · have := gapL_len S es (cur ++ [en e]); simp only [List.length_cons]; omega
theorem gapL_mem (S : List Str) : ∀ (es : List En) (cur : List Str) (g : List Str), g ∈ gapL S es cur → ∀ z ∈ g, z ∈ cur ∨ ∃ e ∈ es, z = en e
  | [], cur, g, h, z, hz => by rw [List.mem_singleton.mp h] at hz; exact .inl hz
  | e :: es, cur, g, h, z, hz => by
    unfold gapL at h
    split at h
    · rcases List.mem_cons.mp h with h | h
      · rw [h] at hz; exact .inl hz
      · rcases gapL_mem S es [] g h z hz with h | ⟨d, hd, ez⟩
        · cases h
        · exact .inr ⟨d, List.mem_cons_of_mem _ hd, ez⟩
    · rcases gapL_mem S es _ g h z hz with h | ⟨d, hd, ez⟩
      · rcases List.mem_append.mp h with h | h
        · exact .inl h
        · exact .inr ⟨e, List.mem_cons_self .., List.mem_singleton.mp h⟩
      · exact .inr ⟨d, List.mem_cons_of_mem _ hd, ez⟩
/-- these values are tuples of these texts -/
inductive Gs (K : PySem.W.Frag) (H : Hp) : List V → List (List Str) → Prop where
  | nil : Gs K H [] []
  | cons {p : Addr} {g : List Str} {vs : List V} {gs : List (List Str)} : SqT K H p (g.map V.str) → Gs K H vs gs → Gs K H (.ref p :: vs) (g :: gs)
def GapsAt (K : PySem.W.Frag) (H : Hp) (a : Addr) (gs : List (List Str)) : Prop := ∃ vs, SqT K H a vs ∧ Gs K H vs gs
theorem Gs.mono {K : PySem.W.Frag} {H H' : Hp} (t : Tk K H H') {vs : List V} {gs : List (List Str)} (h : Gs K H vs gs) : Gs K H' vs gs := by
  induction h with
  | nil => exact .nil
  | cons a _ ih => exact .cons (t _ _ a) ih
theorem Gs.len {K : PySem.W.Frag} {H : Hp} {vs : List V} {gs : List (List Str)} (h : Gs K H vs gs) : vs.length = gs.length := by
  induction h with
  | nil => rfl
  | cons _ _ ih => simp [ih]
theorem Gs.snoc {K : PySem.W.Frag} {H : Hp} {vs : List V} {gs : List (List Str)} {p : Addr} {g : List Str} (h : Gs K H vs gs) (hp : SqT K H p (g.map V.str)) : Gs K H (vs ++ [.ref p]) (gs ++ [g]) := by
  induction h with
  | nil => exact .cons hp .nil
  | cons a _ ih => exact .cons a ih
abbrev gdata (gs : List (List Str)) : List PyData := gs.map fun g => .tuple (g.map PyData.str)
theorem Gs.dp {K : PySem.W.Frag} {H : Hp} {vs : List V} {gs : List (List Str)} (h : Gs K H vs gs) : DpAll K H vs (gdata gs) := by
  induction h with
  | nil => exact .nil
  | cons a _ ih => exact .cons (.tup a (strs_dp _)) ih
theorem gdata_lay : ∀ gs : List (List Str), (∀ g ∈ gs, ∀ z ∈ g, PyData.strOk z = true) → PyData.canLayAll0 (gdata gs) = true
  | [], _ => by simp [PyData.canLayAll0]
  | g :: gs, h => by
    have h1 := strs_lay g (h g (List.mem_cons_self ..))
    have h2 := gdata_lay gs fun y hy => h y (List.mem_cons_of_mem _ hy)
    simp [PyData.canLayAll0, PyData.canLay0, h1] at h2 ⊢
    exact h2
theorem gdata_depth : ∀ gs : List (List Str), PyData.depthAll (gdata gs) ≤ 1
  | [] => by simp [PyData.depthAll]
  | g :: gs => by
    have h2 := gdata_depth gs
    have h3 := strs_depth g
    simp only [gdata, List.map_cons, PyData.depthAll, PyData.depth] at h2 ⊢
    omega
theorem o_eqGaps {K : PySem.W.Frag} {H : Hp} {Q : VK} {a b : Addr} {gs : List (List Str)} (h1 : GapsAt K H a gs) (h2 : GapsAt K H b gs) (hn : ∀ g ∈ gs, ∀ z ∈ g, PyData.strOk z = true) (q : Q (.bl true) H) : rEqB K (.ref a) (.ref b) H Q := by
  obtain ⟨v1, s1, g1⟩ := h1
  obtain ⟨v2, s2, g2⟩ := h2
  have hl : PyData.canLay0 (.tuple (gdata gs)) = true := by rw [PyData.canLay0]; exact gdata_lay gs hn
  have e := SeqAt.eqv_refl _ hl
  have := gdata_depth gs
  refine ⟨_, _, .tup s1 g1.dp, .tup s2 g2.dp, hl, hl, ?_, by rw [e]; exact q⟩
  simp only [PyData.depth]; omega
theorem o_inT {K : PySem.W.Frag} {H : Hp} {Q : VK} {t : Addr} {n : Str} {zs : List Str} (ht : SqT K H t (zs.map V.str)) (q : Q (.bl (decide (n ∈ zs))) H) : rIn K false (.str n) (.ref t) H Q := by
  refine ⟨t, _, rfl, .inr ht, rfl, flat_strs zs, ?_⟩
  simp only [Bool.false_eq_true, if_false]
  rw [inV_str]; exact q
def sp_are_unlike_names (K : PySem.W.Frag) : Sp := fun vs H Q _ => ∃ (t : Addr) (zs : List Str), vs = [.ref t] ∧ SqT K H t (zs.map V.str) ∧ zs.Nodup ∧ (∀ z ∈ zs, IsName z) ∧ zs.length ≤ 1000 ∧ ∀ H', Kp H H' → Q (.bl true) H'
def sp_u_check_names (K : PySem.W.Frag) : Sp := fun vs H Q _ => ∃ (a t : Addr) (f : Fo) (zs : List Str), vs = [.ref a, .ref t] ∧ WoodAt K H a f ∧ NameOk f ∧ SqT K H t (zs.map V.str) ∧ zs.Nodup ∧ (∀ z ∈ zs, z ∈ f.nm) ∧ ∀ H', Kp H H' → Q .non H'
def sp_skeleton_of (K : PySem.W.Frag) : Sp := fun vs H Q _ => ∃ (a t : Addr) (f : Fo) (zs : List Str), vs = [.ref a, .ref t] ∧ WoodAt K H a f ∧ NameOk f ∧ SqT K H t (zs.map V.str) ∧ zs.Nodup ∧ (∀ z ∈ zs, z ∈ f.nm) ∧ ∀ p H', Kp H H' → WoodAt K H' p (f.skel zs) → Q (.ref p) H'
def sp_gaps_of (K : PySem.W.Frag) : Sp := fun vs H Q _ => ∃ (a t : Addr) (f : Fo) (zs : List Str), vs = [.ref a, .ref t] ∧ WoodAt K H a f ∧ NameOk f ∧ SqT K H t (zs.map V.str) ∧ zs.Nodup ∧ (∀ z ∈ zs, z ∈ f.nm) ∧ ∀ p H', Kp H H' → GapsAt K H' p (gapL zs f.erow []) → Q (.ref p) H'
def t_are_unlike_names (K : PySem.W.Frag) : TS :=
  (tSeq (tIfS (tOr (tNot (tB (tIsi K "tuple" (tVar 0)))) (tNot (tB (tCB (rAll K) (tCons (tLc (iTup K (tVar 0)) (gName 1) tYes (tCall (sp_is_name K) [] E0 (tCons (tVar 1) tNil)) [1]) tNil))))) (tRet (tC (.bl false))) tNext)
  (tRet (tOp rEq (tLenSetT K (tVar 0)) (tCB (rLenSeq K) (tCons (tVar 0) tNil)))))
def t_u_check_names (K : PySem.W.Frag) : TS :=
  (tSeq (tIfS (tNot (tB (tCall (sp_are_unlike_names K) [] E0 (tCons (tVar 1) tNil)))) tNever tNext)
  (tDrop (tCall (sp_u_check_there K) [] E0 (tCons (tCall (sp_parents_of K) [] E0 (tCons (tVar 0) tNil)) (tCons (tVar 1) tNil)))))
def t_skeleton_of (K : PySem.W.Frag) : TS :=
  (tSeq (tDrop (tCall (sp_u_check_names K) [] E0 (tCons (tVar 0) (tCons (tVar 1) tNil))))
  (tRet (tCall (sp_unchecked_wood K) [] E0 (tCons (tLc (iTup K (tCall (sp_row_of K) [] E0 (tCons (tVar 0) tNil))) (gName 2) (tTest (tOp (rIn K false) (L2.tSl rSlS (tVar 2) (tPart (tC (.int 1))) tNoPart) (tVar 1))) (tVar 2) [2]) tNil))))
def t_gaps_of_b1 (K : PySem.W.Frag) : TS :=
  (tIfS (tTest (tOp (rIn K false) (L2.tSl rSlS (tVar 4) (tPart (tC (.int 1))) tNoPart) (tVar 1))) (tSeq (tDrop (tBM K "list" rAppend (tVar 2) (tCons (tCB (rTupleOf K) (tCons (tVar 3) tNil)) tNil)))
  (tAsg (tLst tNil) (gName 3))) (tDrop (tBM K "list" rAppend (tVar 3) (tCons (tVar 4) tNil))))
def t_gaps_of (K : PySem.W.Frag) : TS :=
  (tSeq (tDrop (tCall (sp_u_check_names K) [] E0 (tCons (tVar 0) (tCons (tVar 1) tNil))))
  (tSeq (tAsg (tLst tNil) (gName 2))
  (tSeq (tAsg (tLst tNil) (gName 3))
  (tSeq (tFor (iTup K (tCall (sp_row_of K) [] E0 (tCons (tVar 0) tNil))) (gName 4)
  (t_gaps_of_b1 K))
  (tSeq (tDrop (tBM K "list" rAppend (tVar 2) (tCons (tCB (rTupleOf K) (tCons (tVar 3) tNil)) tNil)))
  (tRet (tCB (rTupleOf K) (tCons (tVar 2) tNil))))))))
theorem o_lenSetT {K : PySem.W.Frag} {ta : TE} {σ : L2.St} {H : Hp} {Q : VK} : tLenSetT K ta σ H Q = ta σ H fun x H1 => ∃ (l : Addr) (xs : List Str), x = .ref l ∧ SqT K H1 l (xs.map V.str) ∧ xs.length < 4000 ∧ Q (.int (dcnt xs xs.length : Nat)) H1 := rfl
section
variable {K : PySem.W.Frag}
theorem len_are_unlike_names (vs : List V) (H : Hp) (Q : VK) (E : XK) (h : sp_are_unlike_names K vs H Q E) : vs.length = 1 := by
  obtain ⟨_, _, rfl, _⟩ := h; rfl
theorem len_u_check_names (vs : List V) (H : Hp) (Q : VK) (E : XK) (h : sp_u_check_names K vs H Q E) : vs.length = 2 := by
  obtain ⟨_, _, _, _, rfl, _⟩ := h; rfl
theorem len_skeleton_of (vs : List V) (H : Hp) (Q : VK) (E : XK) (h : sp_skeleton_of K vs H Q E) : vs.length = 2 := by
  obtain ⟨_, _, _, _, rfl, _⟩ := h; rfl
theorem len_gaps_of (vs : List V) (H : Hp) (Q : VK) (E : XK) (h : sp_gaps_of K vs H Q E) : vs.length = 2 := by
  obtain ⟨_, _, _, _, rfl, _⟩ := h; rfl
theorem pure_are_unlike_names (vs : List V) (H : Hp) (Q : VK) (E : XK) (h : sp_are_unlike_names K vs H Q E) : t_are_unlike_names K { nx := fun _ H' => Q .non H', rt := Q } (startN 2 vs) H := by
  obtain ⟨t, zs, rfl, ht, nd, hn, hl, q⟩ := h
  show t_are_unlike_names K _ [some (.ref t), none] H
  unfold t_are_unlike_names
  have hz := sizeLine_eq
  walk_at "rd"
  refine o_isiT ht ?_
  walk_at "rd"
  simp only [Bool.not_true, Bool.false_eq_true, if_false]
  refine ⟨⟨_, ht⟩, ?_⟩
  refine lb_walk (n := (zs.map V.str).length) walk_tup (fun D i H2 => H D = none ∧ Kp H H2 ∧ H2 D = some (.lst ((List.replicate i true).map V.bl))) ?_ ?_ ?_ ?_
  · intro D hD
    exact ⟨hD, (show Kp H H from fun _ _ h => h).new hD, by rw [upd_same]; rfl⟩
  · rintro D i H2 hi ⟨hD, k2, _⟩
    exact Tk.kp k2 _ _ ht
  · rintro D i x H2 H3 hi ⟨hD, k2, h2⟩ ⟨rfl, hx⟩
    rw [List.getElem?_map, Option.map_eq_some_iff] at hx
    obtain ⟨z, hz2, rfl⟩ := hx
    have hi2 := (List.getElem?_eq_some_iff.mp hz2).1
    have hzn := hn z (List.mem_of_getElem? hz2)
    have h8 := hzn.eight
    show gName 1 (.str z) _ _ _
    walk_at "rd"
    refine ⟨_, rfl, .inl ⟨z, rfl, by omega, ?_⟩⟩
    rw [nameB_of hzn]
    refine ⟨_, h2, by rw [List.length_map, List.length_replicate]; omega, hD, fun b o e => ?_, ?_⟩
    · rw [upd_ne (ne_of_none e hD)]; exact k2 _ _ e
    · rw [upd_same, List.replicate_succ']; simp
  · rintro D H2 hD ⟨_, k2, h2⟩
    refine ⟨D, _, rfl, SqL.of h2, ?_⟩
    have e : (List.replicate (zs.map V.str).length true).all id = true := by simp
    rw [e]
    walk_at "rd"
    simp only [Bool.not_true, Bool.false_eq_true, if_false]
    rw [o_lenSetT]
    walk_at "rd"
    refine ⟨t, zs, rfl, Tk.kp k2 _ _ ht, by omega, ?_⟩
    refine ⟨t, _, rfl, .inr (Tk.kp k2 _ _ ht), rfl, ?_⟩
    rw [dcnt_nodup nd _ (Nat.le_refl _), List.length_map]
    simpa using q H2 k2
theorem pure_u_check_names (vs : List V) (H : Hp) (Q : VK) (E : XK) (h : sp_u_check_names K vs H Q E) : t_u_check_names K { nx := fun _ H' => Q .non H', rt := Q } (startN 2 vs) H := by
  obtain ⟨a, t, f, zs, rfl, ha, hf, ht, nd, hin, q⟩ := h
  show t_u_check_names K _ [some (.ref a), some (.ref t)] H
  unfold t_u_check_names
  walk_at "rd"
  have hl : zs.length ≤ 1000 := by
    have := hf.sz
    have := nd.length_le_of_subset (l₂ := f.nm) fun z hz => hin z hz
    omega
  refine ⟨t, zs, rfl, ht, nd, fun z hz => hf.nms z (hin z hz), hl, fun H1 k1 => ?_⟩
  walk_at "rd"
  simp only [Bool.not_true, Bool.false_eq_true, if_false]
  refine ⟨a, f, rfl, ha.mono (Tk.kp k1), hf, fun d H2 k2 _ hd => ?_⟩
  exact ⟨d, t, _, zs, rfl, hd, Tk.kp k2 _ _ (Tk.kp k1 _ _ ht), fun z hz => by rw [pars_nm]; exact hin z hz, q H2 fun b o e => k2 _ _ (k1 _ _ e)⟩
theorem pure_skeleton_of (vs : List V) (H : Hp) (Q : VK) (E : XK) (h : sp_skeleton_of K vs H Q E) : t_skeleton_of K { nx := fun _ H' => Q .non H', rt := Q } (startN 3 vs) H := by
  obtain ⟨a, t, f, zs, rfl, ha, hf, ht, nd, hin, q⟩ := h
  show t_skeleton_of K _ [some (.ref a), some (.ref t), none] H
  unfold t_skeleton_of
  have hz := sizeLine_eq
  have hsz := hf.sz
  walk_at "rd"
  refine ⟨a, t, f, zs, rfl, ha, hf, ht, nd, hin, fun H1 k1 => ?_⟩
  refine ⟨a, f, rfl, ha.mono (Tk.kp k1), hsz, hf.short, fun p H2 k2 hr => ?_⟩
  walk_at "rd"
  refine ⟨⟨_, hr⟩, ?_⟩
  have hlen : f.erow.length = 2 * f.nm.length := by rw [← row_len f, Fo.row_erow, List.length_map]
  rw [Fo.row_erow, List.map_map] at hr
  have ht2 := Tk.kp k2 _ _ (Tk.kp k1 _ _ ht)
  refine lb_walk (n := (f.erow.map (V.str ∘ en)).length) walk_tup (fun D i H3 => H2 D = none ∧ Kp H2 H3 ∧ H3 D = some (.lst ((((f.erow.take i).filter fun e => decide (e.2 ∈ zs)).map en).map V.str))) ?_ ?_ ?_ ?_
  · intro D hD
    exact ⟨hD, (show Kp H2 H2 from fun _ _ h => h).new hD, by rw [upd_same]; rfl⟩
  · rintro D i H3 hi ⟨hD, k3, _⟩
    exact Tk.kp k3 _ _ hr
  · rintro D i x H3 H4 hi ⟨hD, k3, h3⟩ ⟨rfl, hx⟩
    rw [List.getElem?_map, Option.map_eq_some_iff] at hx
    obtain ⟨e, he, rfl⟩ := hx
    have hi2 := (List.getElem?_eq_some_iff.mp he).1
    have hie : IsName e.2 := hf.nms _ (erow_nm f e (List.mem_of_getElem? he))
    have h8 := hie.eight
    have hle : ((f.erow.take i).filter fun e => decide (e.2 ∈ zs)).length ≤ 2000 := by
      have := List.length_filter_le (fun e : En => decide (e.2 ∈ zs)) (f.erow.take i)
      rw [List.length_take] at this; omega
    show gName 2 (.str (en e)) _ _ _
    walk_at "rd"
    refine ⟨en e, rfl, by rw [en_len]; omega, ?_⟩
    rw [en_cut1]
    refine o_inT (Tk.kp k3 _ _ ht2) ?_
    walk_at "rd"
    rw [List.take_add_one, he, List.filter_append]
    refine ite2 (fun hc => ?_) fun hc => ?_
    · refine ⟨_, h3, by rw [List.length_map, List.length_map]; omega, hD, fun b o e => ?_, ?_⟩
      · rw [upd_ne (ne_of_none e hD)]; exact k3 _ _ e
      · have hc2 : e.2 ∈ zs := of_decide_eq_true hc
        rw [upd_same]; simp [hc2]
    · refine ⟨hD, k3, ?_⟩
      have hc2 : e.2 ∉ zs := fun h => hc (decide_eq_true h)
      rw [h3]; simp [hc2]
  · rintro D H3 hD ⟨_, k3, h3⟩
    rw [List.length_map, List.take_length, ← Fo.erow_skel, ← Fo.row_erow] at h3
    exact ⟨D, f.skel zs, rfl, .inl (SqL.of h3), hf.skel zs, fun p H4 k4 hw => q p H4 (fun b o e => k4 _ _ (k3 _ _ (k2 _ _ (k1 _ _ e)))) hw⟩
/-- the loop of gaps_of: what comes is what is done and what comes yet -/
theorem pure_gaps_of (vs : List V) (H : Hp) (Q : VK) (E : XK) (h : sp_gaps_of K vs H Q E) : t_gaps_of K { nx := fun _ H' => Q .non H', rt := Q } (startN 5 vs) H := by
  obtain ⟨a, t, f, zs, rfl, ha, hf, ht, nd, hin, q⟩ := h
  show t_gaps_of K _ [some (.ref a), some (.ref t), none, none, none] H
  unfold t_gaps_of
  have hz := sizeLine_eq
  have hsz := hf.sz
  walk_at "rd"
  refine ⟨a, t, f, zs, rfl, ha, hf, ht, nd, hin, fun H1 k1 => ?_⟩
  refine ⟨Nat.zero_le _, fun gn hgn => ?_⟩
  generalize hG : upd H1 gn _ = H2
  obtain ⟨k2, e2⟩ := gen_new hgn hG
  clear hG
  refine ⟨Nat.zero_le _, fun cn hcn => ?_⟩
  generalize hG : upd H2 cn _ = H3
  obtain ⟨k3, e3⟩ := gen_new hcn hG
  clear hG
  have k03 : Kp H H3 := fun b o e => k3 _ _ (k2 _ _ (k1 _ _ e))
  refine ⟨a, f, rfl, ha.mono (Tk.kp k03), hsz, hf.short, fun p H4 k4 hr => ?_⟩
  walk_at "rd"
  refine ⟨⟨_, hr⟩, ?_⟩
  have k04 : Kp H H4 := fun b o e => k4 _ _ (k03 _ _ e)
  have gnH : H gn = none := Kp.free k1 hgn
  have gncn : gn ≠ cn := ne_of_none e2 hcn
  have cnH : H cn = none := Kp.free (fun b o e => k2 _ _ (k1 _ _ e)) hcn
  have hlen : f.erow.length = 2 * f.nm.length := by rw [← row_len f, Fo.row_erow, List.length_map]
  rw [Fo.row_erow, List.map_map] at hr
  have ht4 := Tk.kp k04 _ _ ht
  refine fb_tup (xs := f.erow.map (V.str ∘ en)) (fun i σ H5 => ∃ cl gs ws cur x, Kp H H5 ∧ Tk K H4 H5 ∧ gn ≠ cl ∧ H cl = none ∧ H5 gn = some (.lst ws) ∧ Gs K H5 ws gs ∧ H5 cl = some (.lst (cur.map V.str)) ∧ gs ++ gapL zs (f.erow.drop i) cur = gapL zs f.erow [] ∧ gs.length ≤ i ∧ cur.length ≤ i ∧ i ≤ f.erow.length ∧
    σ = [some (.ref a), some (.ref t), some (.ref gn), some (.ref cl), x]) ?_ ?_ ?_ ?_
  · exact ⟨cn, [], [], [], _, k04, Tk.refl, gncn, cnH, k4 _ _ (k3 _ _ e2), .nil, k4 _ _ e3, rfl, Nat.le_refl _, Nat.le_refl _, Nat.zero_le _, rfl⟩
  · rintro i σ H5 _ ⟨cl, gs, ws, cur, x, k5, t5, _⟩
    exact t5 _ _ hr
  · rintro i v σ H5 hx ⟨cl, gs, ws, cur, x, k5, t5, gc, clH, hg5, gs5, hc5, heq, hgl, hcl, hi, rfl⟩
    rw [List.getElem?_map, Option.map_eq_some_iff] at hx
    obtain ⟨e, he, rfl⟩ := hx
    rw [drop_at he] at heq
    have hi2 := (List.getElem?_eq_some_iff.mp he).1
    have hie : IsName e.2 := hf.nms _ (erow_nm f e (List.mem_of_getElem? he))
    have h8 := hie.eight
    unfold t_gaps_of_b1
    walk_at "rd"
    refine ⟨en e, rfl, by rw [en_len]; omega, ?_⟩
    rw [en_cut1]
    refine o_inT (t5 _ _ ht4) ?_
    walk_at "rd"
    refine ite2 (fun hc => ?_) fun hc => ?_
    · have hc2 : e.2 ∈ zs := of_decide_eq_true hc
      rw [gapL_cons, if_pos hc2] at heq
      refine ⟨.inl ⟨rfl, _, SqL.of hg5⟩, cl, _, rfl, .inl ⟨SqL.of hc5, fun q1 hq1 => ?_⟩⟩
      generalize hG : upd H5 q1 _ = H6
      obtain ⟨k6, e6⟩ := gen_new hq1 hG
      clear hG
      have hg6 := k6 _ _ hg5
      refine ⟨gn, _, _, rfl, rfl, hg6, by rw [gs5.len]; omega, ?_⟩
      generalize hG : upd H6 gn _ = H7
      obtain ⟨k7, e7⟩ := gen_chg hG
      clear hG
      refine ⟨Nat.zero_le _, fun c2 hc2n => ?_⟩
      generalize hG : upd H7 c2 _ = H8
      obtain ⟨k8, e8⟩ := gen_new hc2n hG
      clear hG
      have t57 : Tk K H5 H7 := (Tk.kp k6).trans (Tk.but (.inl ⟨_, hg6⟩) k7)
      have t67 : Tk K H6 H7 := Tk.but (.inl ⟨_, hg6⟩) k7
      have k57 : Kp H H7 := fun b o e => k7 _ _ (k6 _ _ (k5 _ _ e)) (ne_of_none e gnH)
      refine ⟨c2, gs ++ [cur], _, [], _, fun b o e => k8 _ _ (k57 _ _ e), (t5.trans t57).trans (Tk.kp k8), ne_of_none e7 hc2n, Kp.free k57 hc2n, k8 _ _ e7, ((gs5.mono t57).snoc (t67 _ _ (SqT.of e6))).mono (Tk.kp k8), e8, ?_, by rw [List.length_append, List.length_singleton]; omega, Nat.zero_le _, by omega, rfl⟩
      rw [List.append_assoc]; exact heq
    · have hc2 : e.2 ∉ zs := fun h => hc (decide_eq_true h)
      rw [gapL_cons, if_neg hc2] at heq
      refine ⟨.inl ⟨rfl, _, SqL.of hc5⟩, cl, _, _, rfl, rfl, hc5, by rw [List.length_map]; omega, ?_⟩
      generalize hG : upd H5 cl _ = H6
      obtain ⟨k6, e6⟩ := gen_chg hG
      clear hG
      have t56 : Tk K H5 H6 := Tk.but (.inl ⟨_, hc5⟩) k6
      exact ⟨cl, gs, ws, cur ++ [en e], _, fun b o e => k6 _ _ (k5 _ _ e) (ne_of_none e clH), t5.trans t56, gc, clH, k6 _ _ hg5 gc, gs5.mono t56, by rw [e6]; simp, heq, by omega, by rw [List.length_append, List.length_singleton]; omega, by omega, rfl⟩
  · rintro σ H5 ⟨cl, gs, ws, cur, x, k5, t5, gc, clH, hg5, gs5, hc5, heq, hgl, hcl, hi, rfl⟩
    rw [List.length_map] at heq hgl hcl
    rw [List.drop_length] at heq
    walk_at "rd"
    refine ⟨.inl ⟨rfl, _, SqL.of hg5⟩, cl, _, rfl, .inl ⟨SqL.of hc5, fun q1 hq1 => ?_⟩⟩
    generalize hG : upd H5 q1 _ = H6
    obtain ⟨k6, e6⟩ := gen_new hq1 hG
    clear hG
    have hg6 := k6 _ _ hg5
    refine ⟨gn, _, _, rfl, rfl, hg6, by rw [gs5.len]; omega, ?_⟩
    generalize hG : upd H6 gn _ = H7
    obtain ⟨k7, e7⟩ := gen_chg hG
    clear hG
    have t67 : Tk K H6 H7 := Tk.but (.inl ⟨_, hg6⟩) k7
    refine ⟨gn, _, rfl, .inl ⟨SqL.of e7, fun q2 hq2 => ?_⟩⟩
    generalize hG : upd H7 q2 _ = H8
    obtain ⟨k8, e8⟩ := gen_new hq2 hG
    clear hG
    refine q q2 H8 (fun b o e => k8 _ _ (k7 _ _ (k6 _ _ (k5 _ _ e)) (ne_of_none e gnH))) ⟨_, SqT.of e8, ?_⟩
    rw [← heq]
    exact ((gs5.mono ((Tk.kp k6).trans t67)).snoc (t67 _ _ (SqT.of e6))).mono (Tk.kp k8)
end
end Tw
set_option Elab.async false
set_option linter.all false
set_option maxRecDepth 100000
set_option maxHeartbeats 4000000
/-! deeds as the laws draw them -/
namespace Tw
open PySem PySem.Spec PyProof.Rows L2 TL
local macro_rules | `(tactic| walk_at "rd") => `(tactic| try simp only [o_op, o_un, o_var, o_c, o_cb, o_call, o_cons, o_nil, o_tup, o_lst, o_I0, o_I, o_int1, o_intb, o_abs, o_test, o_b, o_not, o_and, o_or, o_andV, o_orV, o_notV, o_ifE, o_isN, o_notN, o_eq, o_ne, o_seq, o_next, o_asg, o_name, o_sub, o_par, o_par3, o_drop, o_ret, o_retN, o_ifS, o_sl, o_noPart, o_part, o_bm, o_bm0, o_m0, o_m1, o_dget, o_dput, o_din, o_dnotin, o_listKeys, e_bl, e_int, e_str, e_some, e_two, e_three, o_for, o_lc, o_iList, o_iTup, o_iRng1, e_int1, e_ref, o_yes, o_wipe0, o_wipe1, o_disp, o_dnew, o_pairs0, o_pairs1, o_lock, o_keysM, o_gtup, o_gcons, o_gnil, o_rU, o_tru, o_revT, o_enumT, o_from, true_and, if_pos, List.getElem?_cons_zero, List.getElem?_cons_succ, List.set_cons_zero, List.set_cons_succ, List.append_nil])
section
variable {X : Cx} {CX : CXT} {k : Nat} {sp : Sp} {E : XK} {x : Str} {p pos : Pos}
/-- a def of the text without arguments, called -/
theorem pe_cal0 (c : Cal X.prog X.w X.K X.mg X.base CX x [] k sp) (hr : Room k X.A) (hg : Gl X x) (hx : Passes CX X E) (hdb : (x == ("__debug__" : Str)) = false := by decide) : PE X (.Call (.Name x p) [] [] pos) (tCall sp [] E tNil) := by
  obtain ⟨f, fd, F, g, kp, b⟩ := c
  exact pe_call0 F hr hg g kp b .nil hx hdb
end
/-- the thirteen words -/
def words : List Str := ["first", "last", "ahead", "behind", "front", "back", "swap", "turn", "lift", "cut", "pour", "wrap", "put"]
def words1 : List Str := ["front", "back", "lift", "cut"]
theorem words_len : words.length = 13 := rfl
/-- a deed: its word, its names -/
structure Deed where
  word : Str
  names : List Str
/-- as many names as the word wants -/
structure Deed.Ok (d : Deed) (zs : List Str) : Prop where
  word : d.word ∈ words
  many : d.names.length = if d.word ∈ words1 then 1 else 2
  nms : ∀ n ∈ d.names, n ∈ zs
/-- the tuple at a is the deed -/
def DeedAt (K : PySem.W.Frag) (H : Hp) (a : Addr) (d : Deed) : Prop := SqT K H a (.str d.word :: d.names.map V.str)
def sp_l_words (_ : PySem.W.Frag) : Sp := fun vs H Q _ => vs = [] ∧ ∀ p H', Kp H H' → H p = none → H' p = some (.lst (words.map V.str)) → Q (.ref p) H'
def sp_l_some_deed (K : PySem.W.Frag) : Sp := fun vs H Q _ => ∃ (a l : Addr) (zs : List Str), vs = [.ref a, .ref l] ∧ DeckAt H a ∧ H l = some (.lst (zs.map V.str)) ∧ l ≠ a ∧ zs ≠ [] ∧ zs.length ≤ 1000 ∧
  ∀ (p : Addr) (d : Deed) (H' : Hp), Dk a H H' → DeedAt K H' p d → d.Ok zs → Q (.ref p) H'
def t_l_words (K : PySem.W.Frag) : TS :=
  (tSeq (tAsg (tLst (tCons (tC (.str "first")) (tCons (tC (.str "last")) (tCons (tC (.str "ahead")) (tCons (tC (.str "behind")) (tCons (tC (.str "front")) (tCons (tC (.str "back")) (tCons (tC (.str "swap")) tNil)))))))) (gName 0))
  (tRet (tOp rCat (tVar 0) (tLst (tCons (tC (.str "turn")) (tCons (tC (.str "lift")) (tCons (tC (.str "cut")) (tCons (tC (.str "pour")) (tCons (tC (.str "wrap")) (tCons (tC (.str "put")) tNil))))))))))
def t_l_some_deed (K : PySem.W.Frag) : TS :=
  (tSeq (tAsg (tCall (sp_l_pick K) [] E0 (tCons (tVar 0) (tCons (tCall (sp_l_words K) [] E0 tNil) tNil))) (gName 2))
  (tSeq (tIfS (tTest (tOp (rIn K false) (tVar 2) (tTup (tCons (tC (.str "front")) (tCons (tC (.str "back")) (tCons (tC (.str "lift")) (tCons (tC (.str "cut")) tNil))))))) (tRet (tTup (tCons (tVar 2) (tCons (tCall (sp_l_pick K) [] E0 (tCons (tVar 0) (tCons (tVar 1) tNil))) tNil)))) tNext)
  (tRet (tTup (tCons (tVar 2) (tCons (tCall (sp_l_pick K) [] E0 (tCons (tVar 0) (tCons (tVar 1) tNil))) (tCons (tCall (sp_l_pick K) [] E0 (tCons (tVar 0) (tCons (tVar 1) tNil))) tNil)))))))
section
variable {K : PySem.W.Frag}
theorem len_l_words (vs : List V) (H : Hp) (Q : VK) (E : XK) (h : sp_l_words K vs H Q E) : vs.length = 0 := by
  obtain ⟨rfl, _⟩ := h; rfl
theorem len_l_some_deed (vs : List V) (H : Hp) (Q : VK) (E : XK) (h : sp_l_some_deed K vs H Q E) : vs.length = 2 := by
  obtain ⟨_, _, _, rfl, _⟩ := h; rfl
theorem pure_l_words (vs : List V) (H : Hp) (Q : VK) (E : XK) (h : sp_l_words K vs H Q E) : t_l_words K { nx := fun _ H' => Q .non H', rt := Q } (startN 1 vs) H := by
  obtain ⟨rfl, q⟩ := h
  show t_l_words K _ [none] H
  unfold t_l_words
  have hz := sizeLine_eq
  walk_at "rd"
  refine ⟨by show 7 ≤ sizeLine; omega, fun p1 hp1 => ?_⟩
  generalize hG : upd H p1 _ = H1
  obtain ⟨k1, e1⟩ := gen_new hp1 hG
  clear hG
  walk_at "rd"
  refine ⟨by show 6 ≤ sizeLine; omega, fun p2 hp2 => ?_⟩
  generalize hG : upd H1 p2 _ = H2
  obtain ⟨k2, e2⟩ := gen_new hp2 hG
  clear hG
  refine ⟨p1, p2, _, _, rfl, rfl, k2 _ _ e1, e2, by show 7 + 6 ≤ sizeLine; omega, fun p3 hp3 => ?_⟩
  generalize hG : upd H2 p3 _ = H3
  obtain ⟨k3, e3⟩ := gen_new hp3 hG
  clear hG
  exact q p3 H3 (fun b o e => k3 _ _ (k2 _ _ (k1 _ _ e))) (Kp.free (fun b o e => k2 _ _ (k1 _ _ e)) hp3) e3
theorem pure_l_some_deed (vs : List V) (H : Hp) (Q : VK) (E : XK) (h : sp_l_some_deed K vs H Q E) : t_l_some_deed K { nx := fun _ H' => Q .non H', rt := Q } (startN 3 vs) H := by
  obtain ⟨a, l, zs, rfl, hd, hl, hla, hne, hsz, q⟩ := h
  show t_l_some_deed K _ [some (.ref a), some (.ref l), none] H
  unfold t_l_some_deed
  have hz := sizeLine_eq
  walk_at "rd"
  refine ⟨rfl, fun p H1 k1 hp h1 => ?_⟩
  have hpa : p ≠ a := deck_ne hd hp
  obtain ⟨x0, y0, z0, hd0⟩ := hd
  refine o_pick ⟨x0, y0, z0, k1 _ _ hd0⟩ h1 hpa (by decide) (by decide) fun w H2 hw k2 => ?_
  walk_at "rd"
  refine ⟨by show 4 ≤ sizeLine; omega, fun p3 hp3 => ?_⟩
  have hp3a : p3 ≠ a := deck_ne k2.deck hp3
  generalize hG : upd H2 p3 _ = H3
  obtain ⟨k3, e3⟩ := gen_new hp3 hG
  clear hG
  obtain ⟨x2, y2, z2, hd2⟩ := k2.deck
  have d03 : Dk a H H3 := ⟨fun b o e nb => k3 _ _ (k2.keep _ _ (k1 _ _ e) nb), x2, y2, z2, k3 _ _ hd2⟩
  have e3' : SqT K H3 p3 (words1.map V.str) := SqT.of e3
  refine o_inT e3' ?_
  walk_at "rd"
  refine ite2 (fun hc => ?_) fun hc => ?_
  · have hc2 : w ∈ words1 := of_decide_eq_true hc
    refine o_pick d03.deck (d03.keep _ _ hl hla) hla hne (by omega) fun n H4 hn k4 => ?_
    refine ⟨by show 2 ≤ sizeLine; omega, fun p5 hp5 => ?_⟩
    generalize hG : upd H4 p5 _ = H5
    obtain ⟨k5, e5⟩ := gen_new hp5 hG
    clear hG
    have d04 := d03.trans k4
    obtain ⟨x4, y4, z4, hd4⟩ := d04.deck
    exact q p5 ⟨w, [n]⟩ H5 ⟨fun b o e nb => k5 _ _ (d04.keep _ _ e nb), x4, y4, z4, k5 _ _ hd4⟩ (SqT.of e5) ⟨hw, by rw [if_pos hc2]; rfl, fun m hm => by rw [List.mem_singleton.mp hm]; exact hn⟩
  · have hc2 : w ∉ words1 := fun h => hc (decide_eq_true h)
    refine o_pick d03.deck (d03.keep _ _ hl hla) hla hne (by omega) fun n H4 hn k4 => ?_
    refine o_pick k4.deck (k4.keep _ _ (d03.keep _ _ hl hla) hla) hla hne (by omega) fun n2 H5 hn2 k5 => ?_
    refine ⟨by show 3 ≤ sizeLine; omega, fun p6 hp6 => ?_⟩
    generalize hG : upd H5 p6 _ = H6
    obtain ⟨k6, e6⟩ := gen_new hp6 hG
    clear hG
    have d05 := (d03.trans k4).trans k5
    obtain ⟨x4, y4, z4, hd5⟩ := d05.deck
    refine q p6 ⟨w, [n, n2]⟩ H6 ⟨fun b o e nb => k6 _ _ (d05.keep _ _ e nb), x4, y4, z4, k6 _ _ hd5⟩ (SqT.of e6) ⟨hw, by rw [if_neg hc2]; rfl, fun m hm => ?_⟩
    rcases List.mem_cons.mp hm with e | hm
    · rw [e]; exact hn
    · rw [List.mem_singleton.mp hm]; exact hn2
end
end Tw
set_option Elab.async false
set_option linter.all false
set_option maxRecDepth 100000
set_option maxHeartbeats 4000000
/-! errors of the text's own classes: made, raised, caught -/
namespace Tw
open PySem PySem.Spec PyProof.Rows L2
/-! ### what the written part says of a class with an __init__ over ValueError -/
def clsShape (K : PySem.W.Frag) (C : Addr) : Bool := match K.lookup C with
  | some ⟨.type "type", _, .cls cd, sl⟩ => (match cd.mro, sl.toList with
    | .ref C' :: bm, [_, _, _, _, some (.builtin n), _] => C' == C && n == "ValueError.__new__" && !cd.hasDel && cd.hasDict && PySem.HandSPX.refsVE bm
    | _, _ => false)
  | _ => false
theorem clsShape_ok {K : PySem.W.Frag} {C : Addr} (q : clsShape K C = true) : ∃ nm q N bs bm sn sub ab col dd k0 k1 k2 k3 k5, K.lookup C = some (excClassObj nm q C N bs bm true sn sub ab col dd k0 k1 k2 k3 k5 "ValueError.__new__") ∧ PySem.HandSPX.refsVE bm = true := by
  unfold clsShape at q
  split at q
  · rename_i dd cd sl ho
    split at q
    · rename_i C' bm k0 k1 k2 k3 n k5 hm hs
      simp only [Bool.and_eq_true, beq_iff_eq, Bool.not_eq_true'] at q
      obtain ⟨⟨⟨⟨rfl, rfl⟩, hdel⟩, hd⟩, ht⟩ := q
      obtain ⟨nm, bs, mro, ns, qn, hdc, sn, sub, ab, col, del⟩ := cd
      dsimp only at hm hdel hd
      subst hm hdel hd
      have hsl : sl = #[k0, k1, k2, k3, some (.builtin "ValueError.__new__"), k5] := by
        obtain ⟨l⟩ := sl
        simp only at hs
        rw [hs]
      subst hsl
      exact ⟨nm, qn, ns, bs, bm, sn, sub, ab, col, dd, k0, k1, k2, k3, k5, ho, ht⟩
    · cases q
  · cases q
def oexB (K : PySem.W.Frag) (C : Addr) : Bool := clsShape K C && (decide (PySem.W.findIn K (.ref C) "__setattr__" = some (some (.builtin "object.__setattr__"))) && (decide (PySem.W.subIn K (.ref C) (.type "BaseException") = some true) && (decide (PySem.W.typeIn K (.ref C) = some (.type "type")) && PySem.W.keepIn K (.ref C))))
theorem oexB_ok {K : PySem.W.Frag} {C : Addr} (h : oexB K C = true) : OexC K C := by
  obtain ⟨h1, h⟩ := Bool.and_eq_true_iff.mp h
  obtain ⟨h2, h⟩ := Bool.and_eq_true_iff.mp h
  obtain ⟨h3, h⟩ := Bool.and_eq_true_iff.mp h
  obtain ⟨h4, h5⟩ := Bool.and_eq_true_iff.mp h
  exact ⟨clsShape_ok h1, of_decide_eq_true h2, of_decide_eq_true h3, of_decide_eq_true h4, h5⟩
/-- what isinstance asks of the class -/
def excB (K : PySem.W.Frag) (D : Addr) : Bool := xfB K D && (decide (PySem.W.findIn K (.ref D) "__class__" = some (some (.builtin "object.__class__"))) && (decide (PySem.W.specialIn K (.builtin "object.__class__") "__get__" = some (some (.builtin "getset_descriptor.__get__"))) &&
  (decide (PySem.W.takesIn K (.builtin "object.__class__") = some true) && decide (PySem.W.mroIn K D (.type "object") = some true))))
theorem excB_ok {K : PySem.W.Frag} {D : Addr} (h : excB K D = true) : ExcC K D := by
  obtain ⟨h1, h⟩ := Bool.and_eq_true_iff.mp h
  obtain ⟨h2, h⟩ := Bool.and_eq_true_iff.mp h
  obtain ⟨h3, h⟩ := Bool.and_eq_true_iff.mp h
  obtain ⟨h4, h5⟩ := Bool.and_eq_true_iff.mp h
  have x := xfB_ok h1
  exact ⟨x.ga, x.gg, x.exC, x.hdC, of_decide_eq_true h2, of_decide_eq_true h3, of_decide_eq_true h4, of_decide_eq_true h5⟩
/-! ### raise -/
/-- raise e, e makes t: what leaves the def is E's business -/
def tRaise (E : XK) (t : L2.St → Hp → XK → Prop) : TS := fun _ σ H => t σ H fun cls d H' => E cls d H'
/-- C(x), C's own __init__ storing x under f -/
def tMk1 (C : Addr) (f : Str) (te : TE) : L2.St → Hp → XK → Prop := fun σ H Q => te σ H fun v H1 => ∀ d, H1 d = none → Q (.ref C) (some d) (upd H1 d (.xd [(f, v)]))
/-- __init__(self, x): self.f = x -/
def sp_init1 (K : PySem.W.Frag) (C : Addr) (f : Str) : Sp := fun vs H Q _ => ∃ a v, vs = [.ref a, v] ∧ OexC K C ∧ PySem.W.findIn K (.ref C) f = some none ∧ H a = some (exo a C none) ∧ ∀ dx, H dx = none → dx ≠ a → Q .non (upd (upd H dx (exd dx [(f, v)])) a (exo a C (some dx)))
theorem len_init1 {K : PySem.W.Frag} {C : Addr} {f : Str} (vs : List V) (H : Hp) (Q : VK) (E : XK) (h : sp_init1 K C f vs H Q E) : vs.length = 2 := by
  obtain ⟨_, _, rfl, _⟩ := h; rfl
def t_init1 (K : PySem.W.Frag) (f : Str) : TS := tOst K f (tVar 0) (tVar 1)
theorem pure_init1 {K : PySem.W.Frag} {C : Addr} {f : Str} (vs : List V) (H : Hp) (Q : VK) (E : XK) (h : sp_init1 K C f vs H Q E) : t_init1 K f { nx := fun _ H' => Q .non H', rt := Q } (startN 2 vs) H := by
  obtain ⟨a, v, rfl, T, hf, ha, q⟩ := h
  show t_init1 K f _ [some (.ref a), some v] H
  exact ⟨v, rfl, .ref a, rfl, a, C, rfl, T, hf, .inl ⟨ha, q⟩⟩
theorem mk1_of {K : PySem.W.Frag} {C : Addr} {f : Str} (T : OexC K C) (hf : PySem.W.findIn K (.ref C) f = some none) {te : TE} {σ : L2.St} {H : Hp} {Q : XK} (h : tMk1 C f te σ H Q) (mono : ∀ (P R : VK), (∀ v H', P v H' → R v H') → te σ H P → te σ H R) :
    tMkO C (sp_init1 K C f) [] (tCons te tNil) σ H Q := by
  unfold tMkO
  show te σ H fun v H1 => _
  refine mono _ _ (fun v H1 q => ?_) h
  show 1 ≤ 1000 ∧ _
  refine ⟨by decide, fun a ha => ⟨a, v, rfl, T, hf, upd_same, fun dx hdx hne => ⟨rfl, dx, [(f, v)], upd_same, ?_, ?_, ?_⟩⟩⟩
  · rw [upd_ne hne, upd_same]
  · rw [upd_ne hne] at hdx; exact hdx
  · have hdx1 : H1 dx = none := by rw [upd_ne hne] at hdx; exact hdx
    have e : upd (del (upd (upd (upd H1 a (exo a C none)) dx (exd dx [(f, v)])) a (exo a C (some dx))) a) dx (.xd [(f, v)]) = upd H1 dx (.xd [(f, v)]) := by
      funext b
      by_cases hb : b = dx
      · rw [hb, upd_same, upd_same]
      · rw [upd_ne hb, upd_ne hb]
        by_cases hba : b = a
        · rw [hba, del_same, ha]
        · rw [del_ne hba, upd_ne hba, upd_ne hb, upd_ne hba]
    rw [e]
    exact q dx hdx1
/-- a reading that may be weakened -/
def Mono (te : TE) : Prop := ∀ σ H (P R : VK), (∀ v H', P v H' → R v H') → te σ H P → te σ H R
theorem mono_var {i : Nat} : Mono (tVar i) := fun σ H P R m ⟨v, h, q⟩ => ⟨v, h, m _ _ q⟩
theorem mono_c {v : V} : Mono (tC v) := fun σ H P R m q => m _ _ q
section
variable {X : Cx} {x : Str} {C fI : Addr} {k : Nat} {fd : FuncData} {f : Str} {e : Expr} {te : TE} {p pos : Pos}
/-- what is known of a class with an __init__ of one field -/
structure Cls1 (P : Program) (w : World) (K : PySem.W.Frag) (mg : Str → Option Value) (base : Heap) (x f : Str) (C : Addr) (k : Nat) : Prop where
  oex : OexC K C
  exc : ExcC K C
  xf : XfC K C
  no : PySem.W.findIn K (.ref C) f = some none
  glob : mg x = some (.ref C)
  init : ∃ (fI : Addr) (fd : FuncData) (ps : List Str), PySem.W.findIn K (.ref C) "__init__" = some (some (.ref fI)) ∧ PySem.W.typeIn K (.ref fI) = some (.type "function") ∧ FnOk P w K mg base CX0 k fI fd ps (sp_init1 K C f) ∧ Binds K fd ps []
/-- C(x) -/
theorem pmk1 (c : Cls1 X.prog X.w X.K X.mg X.base x f C k) (hr : Room (k + 1) X.A) (hg : Gl X x) (he : PE X e te) (hm : Mono te) (hdb : (x == ("__debug__" : Str)) = false := by decide)
    (hs : starEach [e] X.env = (false, eval e X.env) :: starEach [] X.env := by rfl) (hpl : (backTo pos (starEach [] X.env)).any (·.1) = false := by rfl) : PMk X (.Call (.Name x p) [e] [] pos) (tMk1 C f te) := by
  obtain ⟨fI, fd, ps, iC, tI, F1, b⟩ := c.init
  intro pins s σ H Q I h
  exact pmk_oex c.oex iC tI F1 hr b .nil pass0 hg c.glob (pa_cons he pa_nil hs) hdb hs hpl pins s σ H Q I (mk1_of c.oex c.no h fun P R m => hm σ H P R m)
/-- C(), C without an __init__ -/
theorem pmk_own0 {bmB : List Value} {B newId initId : String} (F : ExcBaseFacts B newId initId bmB) (q : PySem.W.excIn X.K C bmB newId = true) (gC : X.mg x = some (.ref C)) (kC : PySem.W.keepIn X.K (.ref C) = true) (r : Raises X (.ref C)) (hg : Gl X x)
    (hdb : (x == ("__debug__" : Str)) = false := by decide) : PMk X (.Call (.Name x p) [] [] pos) (fun _ H Q => Q (.ref C) none H) := by
  intro pins s σ H Q I h
  refine wpAny_Call_Name_kw (ld_glob I hg gC ?_ hdb)
  refine PySem.W.callWith_K0 I.kIn kC ?_
  obtain ⟨bm, N, nm, qn, bs, hdct, sn, sub, ab, col, dd, k0, k1, k2, k3, k5, mN, hC, hN, hni, T⟩ := exc_obj I.kIn q
  exact wpAny_call_exc_subT F T hC hN hni (fun h' e hm => mk_of I hm r h (I.hok.gone hm.new)) (Nat.zero_le _)
/-- raise -/
theorem ps_rz {E : XK} {t : L2.St → Hp → XK → Prop} (hc : X.calm = true) (tk : Takes X (fun cls d _ H => E cls d H)) (he : PMk X e t) : PS X (.Raise (some e) none pos) (tRaise E t) := ps_raise hc tk he
end
/-! ### in the suite of a clause -/
/-- isinstance(e, c), e the error at hand, with fields -/
def rIsD (K : PySem.W.Frag) (D : Addr) (cls : Value) (d : Option Addr) (a : Addr) : List V → Hp → VK → Prop := fun xs H Q => ∃ (c : V) (cv : Value) (b : Bool), xs = [.ref a, c] ∧ cls = .ref D ∧ (∃ (dd : Addr) (fs : List (Str × V)), d = some dd ∧ H dd = some (.xd fs)) ∧ (∀ u, RelV c u → u = cv) ∧ PySem.W.kitOne K (.ref D) cv = some b ∧ Q (.bl b) H
theorem call_isD {X : Cx} {a D : Addr} {cls : Value} {d : Option Addr} {oe : Obj} {pn : List (Addr × Obj)} (C : ExcC X.K D) (hz : Zc cls d oe) (hf : ∃ vs, oe.data = .fields vs) : CallR (X.suite a ((a, oe) :: pn)) (.builtin "isinstance") (rIsD X.K D cls d a) := by
  intro pins s σ H xs us Q I r h
  obtain ⟨c, cv, b, rfl, rfl, ⟨dd, fs, rfl, hd⟩, hcv, e, q⟩ := h
  cases r with
  | cons rx rr =>
    cases rr with
    | cons rt rr =>
      cases rr
      cases rx
      have ec := hcv _ rt
      subst ec
      obtain ⟨hget, _⟩ := I.pin (a, oe) (List.mem_append_left _ List.mem_cons_self)
      obtain ⟨vs, hv⟩ := hf
      have ok : ObjOk X.prog X.w H s.heap dd (.xd fs) := I.hok dd _ hd
      obtain ⟨mA, hns, _⟩ := ok
      obtain ⟨od, ho, _⟩ := lookIn_ns hns
      have J : PySem.W.InstAt s.heap a oe D (some od) := ⟨hget, hz.1, by unfold PySem.W.notCls; rw [hv] <;> rfl, by rw [hz.2]; exact ho⟩
      have hcl : (PySem.W.clsIn X.K D).isSome = true := by
        have := C.hd
        unfold PySem.W.hasDictIn at this
        cases h : PySem.W.clsIn X.K D with
        | none => rw [h] at this; cases this
        | some _ => rfl
      exact PySem.W.kia_one (PySem.W.kitx_exc hcl C.hg C.hk C.hs C.ha C.hn C.ht C.hm) I.kIn J e (fun z => nomatch z) fun tk => ⟨.bl b, H, I.kept (t' := tk) fun _ _ z => z, rfl, q⟩
/-- repr of None, of a number -/
def rReprN : List V → Hp → VK → Prop := fun xs H Q => (xs = [.non] ∧ Q (.str "None") H) ∨ ∃ i : Int, xs = [.int i] ∧ i.natAbs.log2 < 1920 ∧ Q (.str (toString i)) H
theorem call_reprN {X : Cx} : CallR X (.builtin "repr") rReprN := by
  intro pins s σ H xs us Q I r h
  rcases h with ⟨rfl, q⟩ | ⟨i, rfl, hz, q⟩
  · cases r with
    | cons rx rr =>
      cases rr
      cases rx
      exact PySem.P.repr_of_none ⟨.str "None", H, I.tok _, ⟨_, rfl⟩, q⟩
  · exact SkE.call_repr_int pins s σ H _ us Q I r ⟨i, rfl, hz, q⟩
/-! ### facts of classes, by their names -/
inductive Chk where
  | one (x f : Str)
  | kit (x y : Str) (b : Bool)
  | exm (x y : Str) (b : Bool)
  | keep (x : Str)
def Chk.ok (K : PySem.W.Frag) : Chk → Bool
  | .one x f => oexB K (He.ga K x) && (excB K (He.ga K x) && (decide (PySem.W.findIn K (.ref (He.ga K x)) f = some none) && (decide (PySem.W.findIn K (.ref (He.ga K x)) "__init__" = some (some (.ref (He.ma K (He.ga K x) "__init__")))) && decide (PySem.W.typeIn K (.ref (He.ma K (He.ga K x) "__init__")) = some (.type "function")))))
  | .kit x y b => decide (PySem.W.kitOne K (.ref (He.ga K x)) (.ref (He.ga K y)) = some b)
  | .exm x y b => decide (PySem.W.exmOne K (.ref (He.ga K x)) (.ref (He.ga K y)) = some b)
  | .keep x => PySem.W.keepIn K (.ref (He.ga K x))
def chkB (l : List Chk) (K : PySem.W.Frag) : Bool := l.all fun c => c.ok K
theorem chk_at {l : List Chk} {K : PySem.W.Frag} (h : chkB l K = true) (i : Nat) {c : Chk} (e : l[i]? = some c) : c.ok K = true := List.all_eq_true.mp h c (List.mem_of_getElem? e)
theorem cls1_of {P : Program} {w : World} {K : PySem.W.Frag} {mg : Str → Option Value} {base : Heap} {x f : Str} {k : Nat} {ps : List Str} {fd : FuncData} (h : (Chk.one x f).ok K = true) (g : mg x = some (.ref (He.ga K x)))
    (F : FnOk P w K mg base CX0 k (He.ma K (He.ga K x) "__init__") fd ps (sp_init1 K (He.ga K x) f)) (b : Binds K fd ps []) : Cls1 P w K mg base x f (He.ga K x) k := by
  obtain ⟨h1, h⟩ := Bool.and_eq_true_iff.mp h
  obtain ⟨h2, h⟩ := Bool.and_eq_true_iff.mp h
  obtain ⟨h3, h⟩ := Bool.and_eq_true_iff.mp h
  obtain ⟨h4, h5⟩ := Bool.and_eq_true_iff.mp h
  have e := excB_ok h2
  exact ⟨oexB_ok h1, e, ⟨e.hg, e.hk, e.hs, e.hd⟩, of_decide_eq_true h3, g, _, fd, ps, of_decide_eq_true h4, of_decide_eq_true h5, F, b⟩
end Tw
set_option Elab.async false
set_option linter.all false
set_option maxRecDepth 100000
set_option maxHeartbeats 4000000
/-! tuples that are laid as what they are (no dict), so that a method may be called on them: t.index(x) -/
namespace Tw
open PySem PySem.Spec PyProof.Rows L2
/-- the tuple at a, laid in this run, has no dict -/
def TD (H : Hp) (a : Addr) (xs : List V) : Prop := ∃ o : Obj, H a = some (.frz o (.tup xs)) ∧ o.cls = .type "tuple" ∧ o.dict = none
theorem TD.sq {K : PySem.W.Frag} {H : Hp} {a : Addr} {xs : List V} (h : TD H a xs) : SqT K H a xs := by
  obtain ⟨o, h, _⟩ := h
  exact .inl (.inr ⟨o, h⟩)
theorem TD.kp {H H' : Hp} {a : Addr} {xs : List V} (h : TD H a xs) (k : Kp H H') : TD H' a xs := by
  obtain ⟨o, h, c, d⟩ := h
  exact ⟨o, k _ _ h, c, d⟩
section
variable {X : Cx}
/-- what is asked of the heap behind a new tuple -/
abbrev NewT (Q : VK) (H : Hp) (xs : List V) : Prop := ∀ (p : Addr) (o : Obj), H p = none → o.cls = .type "tuple" → o.dict = none → Q (.ref p) (upd H p (.frz o (.tup xs)))
theorem newT {pins : List (Addr × Obj)} {σ : L2.St} {H : Hp} {s : Shared} {Q : VK} {xs : List V} {us : List Value} (I : Inv X pins σ H s) (r : Vals xs us) (hz : xs.length ≤ sizeLine) (q : NewT Q H xs) :
    EP X pins σ Q (.ref s.heap.objs.size) { s with heap := s.heap.push { cls := .type "tuple", data := .seq us.toArray } } := by
  have hg : (s.heap.push { cls := .type "tuple", data := .seq us.toArray }).get? s.heap.objs.size = some { cls := .type "tuple", data := .seq us.toArray } := Heap.get?_push_size _ rfl
  refine ⟨.ref s.heap.objs.size, upd H s.heap.objs.size (.frz { cls := .type "tuple", data := .seq us.toArray } (.tup xs)), I.laid (t' := s.toks) (fun b u e => Heap.get?_push_of_some _ e) (Nat.le_refl _) ?_, rfl, q _ _ (I.hok.fresh (Nat.le_refl _)) rfl rfl⟩
  exact ⟨hg, hz, us, r, ⟨_, hg, rfl, _, rfl⟩⟩
def tTupF (t : TA) : TE := fun σ H Q => t σ H fun xs H1 => xs.length ≤ sizeLine ∧ NewT Q H1 xs
theorem pe_tupF {es : List Expr} {t : TA} {x1 : Nat} {pos : Pos} (h : PA X es t) : PE X (.Tuple es x1 pos) (tTupF t) := by
  refine ⟨fun pins s σ H Q I hq => ?_⟩
  exact wpAny_Tuple_spliced (thn (h.run pos pins s σ H _ I hq) fun us s1 ⟨xs, H1, I1, r, z, q⟩ => ⟨by rw [← r.length]; exact z, newT I1 r z q⟩)
/-- t + u -/
def rCatF (K : PySem.W.Frag) : R2 := fun x y H Q => ∃ a b xs ys, x = .ref a ∧ y = .ref b ∧ SqT K H a xs ∧ SqT K H b ys ∧ xs.length + ys.length ≤ sizeLine ∧ (xs = [] → Q (.ref b) H) ∧ (xs ≠ [] → ys = [] → Q (.ref a) H) ∧ (xs ≠ [] → ys ≠ [] → NewT Q H (xs ++ ys))
theorem op_catF : OpR X (binaryOp .Add) (rCatF X.K) := by
  intro pins s σ H x y v u Q I rx ry h
  obtain ⟨a, b, xs, ys, rfl, rfl, ha, hb, hz, q0, q1, q2⟩ := h
  cases rx
  cases ry
  obtain ⟨its, r1, p1, _⟩ := I.tuple ha
  obtain ⟨its2, r2, p2, _⟩ := I.tuple hb
  by_cases hx : xs = []
  · subst hx
    cases r1
    exact cat_tup0 p1 p2 ⟨.ref b, H, I, rfl, q0 rfl⟩
  · refine HT.cat_tup p1 p2 (fun z => hx (r1.nil_iff.mp z)) (fun z => ⟨.ref a, H, I, rfl, q1 hx (r2.nil_iff.mp z)⟩) (fun z => ?_) (by rw [← r1.length, ← r2.length]; exact hz)
    exact newT I (r1.append r2) (by rw [List.length_append]; exact hz) (q2 hx fun w => z (r2.nil_iff.mpr w))
/-- t.index(x), t a tuple of texts -/
def tIdxT (to te : TE) : TE := fun σ H Q => to σ H fun x H1 => ∃ (a : Addr) (zs : List Str), x = .ref a ∧ TD H1 a (zs.map V.str) ∧ (tCons te tNil) σ H1 fun ys H2 => ∃ z, ys = [.str z] ∧ TD H2 a (zs.map V.str) ∧ z ∈ zs ∧ Q (.int (zs.idxOf z : Nat)) H2
theorem pe_idxT {o e : Expr} {to te : TE} {apos cpos : Pos} (ho : PE X o to) (he : PE X e te) (hbase : attributeBase o "index" X.env (eval o X.env) = eval o X.env := by rfl)
    (hfew : ((backTo cpos (starEach [e] X.env)).all (fun x => !x.1) && (backToKw cpos (keywordEach [] X.env)).all (fun x => x.1.isSome) && decide (([e] : List Expr).length + ([] : List Keyword).length + (if ([] : List Keyword).isEmpty then 0 else 1) < 30)) = true := by rfl)
    (hline : (apos.endLine == cpos.line) = true := by rfl) (hs : starEach [e] X.env = (false, eval e X.env) :: starEach [] X.env := by rfl) (hplain : (backTo cpos (starEach [] X.env)).any (·.1) = false := by rfl) : PE X (.Call (.Attribute o "index" apos) [e] [] cpos) (tIdxT to te) := by
  refine ⟨fun pins s σ H Q I h => ?_⟩
  refine wpAny_Call_method_late hbase hfew hline rfl (thn (ho.run pins s σ H _ I h) fun v s1 ⟨x, H1, I1, r1, a, zs, ex, hd, q1⟩ => ?_)
  subst ex
  obtain rfl : v = Value.ref a := r1
  obtain ⟨ob, hH, hc, hdn⟩ := hd
  obtain ⟨hg, _⟩ := I1.hok a _ hH
  refine ⟨"tuple", "tuple.index", PySem.F.plainAttrs_tuple, PySem.F.slot_tuple_index, PySem.F.type_tuple_index, ⟨ob, hg, hc⟩, fun a' e' => ?_, ?_⟩
  · cases e'
    exact ⟨ob, hg, hdn⟩
  · have hA := (pa_cons he pa_nil hs).run cpos pins s1 σ H1 (fun ys H2 => ∃ z, ys = [.str z] ∧ TD H2 a (zs.map V.str) ∧ z ∈ zs ∧ Q (.int (zs.idxOf z : Nat)) H2) I1 q1
    rw [hs] at hA ⊢
    refine Calls.callWith_builtin (by show (false || (backTo cpos (starEach [] X.env)).any (·.1)) = false; rw [hplain] <;> rfl) (Calls.evalArgs_plain ?_)
    refine thn hA fun us s2 ⟨vs, H2, I2, r2, z, ey, hd2, hz, q2⟩ => ?_
    subst ey
    obtain ⟨u, rfl, ru⟩ := r2.one
    obtain ⟨t, rfl⟩ := ru
    obtain ⟨its, rv, pl, _⟩ := I2.tuple (TD.sq (K := X.K) hd2)
    exact SeqAt.call_tuple_index (ks := zs) (k := z) pl (SeqAt.ItemsEq.strs (strsAre_of rv)) hz ⟨.int (zs.idxOf z : Nat), H2, I2.tok _, ⟨_, rfl⟩, q2⟩
end
end Tw
set_option Elab.async false
set_option linter.all false
set_option maxRecDepth 100000
set_option maxHeartbeats 4000000
/-! defs of the text that are run while nothing is being shown: repr of lists, tuples, dicts -/
namespace Tw
open PySem PySem.Spec PyProof.Rows L2
section
variable {P : Program} {w : World} {K : PySem.W.Frag} {mg : Str → Option Value} {base : Heap}
/-- no repr is under way -/
abbrev Quiet (A : Around) : Prop := A.guards = some []
/-- the call of f keeps the promise, here -/
def RunsAt (P : Program) (w : World) (K : PySem.W.Frag) (mg : Str → Option Value) (base : Heap) (CX : CXT) (A : Around) (f : Addr) (fd : FuncData) (ps : List Str) (sp : Sp) : Prop :=
  ∀ (outer : List Env) (s : Shared) (H : Hp) (args : Args) (us : List Value) (vs : List V) (Q : VK) (E : XK), Env0 P w K mg base A outer s H → BindsTo s fd args (ps.zip us) → Vals vs us → sp vs H Q E → codeAny (model P w) A (.call (.ref f) args) (CR CX outer P w H s Q E) s
structure FnG (P : Program) (w : World) (K : PySem.W.Frag) (mg : Str → Option Value) (base : Heap) (CX : CXT) (k : Nat) (f : Addr) (fd : FuncData) (ps : List Str) (sp : Sp) : Prop where
  len : ∀ vs H Q E, sp vs H Q E → vs.length = ps.length
  run : ∀ A : Around, Room k A → Quiet A → RunsAt P w K mg base CX A f fd ps sp
/-- THE RULE for a def that may show -/
theorem fnG_of {CX : CXT} {x qual : Str} {params : Arguments} {body : List Stmt} {scope : Scope} {dvs : List V} {kws : List (Str × V)} {f : Addr} {fd : FuncData} {N ps : List Str} {k : Nat} {sp : Sp} (F : FunD K x qual params body scope dvs kws f fd) (S : FnScope N ps scope)
    (len : ∀ vs H Q E, sp vs H Q E → vs.length = ps.length)
    (hbody : ∀ (cdv : Value) (A : Around) (outer : List Env) (s : Shared) (H : Hp) (vs : List V) (Q : VK) (E : XK), Room k (A.deeper (envOfC qual scope s.heap.objs.size f cdv)) → Quiet (A.deeper (envOfC qual scope s.heap.objs.size f cdv)) → sp vs H Q E →
      ∃ t, PSs (cxOf CX P w K mg base N qual scope f cdv A outer s H E) body t ∧ t { nx := fun _ H' => Q .non H', rt := Q } (start N vs) H) : FnG P w K mg base CX (k + 1) f fd ps sp := by
  obtain ⟨oc, od, dV, kV, doc, pm, an, cdv, ct, osl, rfl, lk, hcd, _, _⟩ := F.ex
  refine ⟨len, fun A hr hq outer s H args us vs Q E e0 hb r hsp => ?_⟩
  have old : ∀ b o, base.get? b = some o → s.heap.get? b = some o := fun b o e => (e0.bs b o e).1
  have KX := e0.mod.kin.keeps old
  refine codeAny_call_function hr.depth (KX _ _ lk) rfl S.co S.gen rfl (PySem.W.codeRec_of KX hcd) (hb _ _ _ _ ?_)
  refine wpAny_newFunctionEnv_cells S.kind (fun ⟨n, v⟩ hy => ?_) fun env he s1 x1 => ?_
  · rcases S.par n (List.of_mem_zip hy).1 with q | q
    · exact .inl q
    · exact .inr ⟨q, PySem.W.cellsFrom_some _ _ _ (.inl q)⟩
  · subst he
    refine ⟨(e0.mod.nolimit.keeps old).keeps x1.toInCall.keep, codeAny_func ?_⟩
    obtain ⟨t, ht, hw⟩ := hbody cdv A outer s H vs Q E (hr.deeper _) (by show A.guards = some []; exact hq) hsp
    have I := inv_start (E := E) (CX := CX) (f := f) (cd := cdv) (qual := qual) S hr.hd e0 (len _ _ _ _ hsp) r x1
    refine wpAny_mono (ht.run [] s1 (start N vs) H _ I hw) (fun fl s' hs => ?_) fun e s' hs => hs
    rcases fl with _ | _ | _ | u
    · obtain ⟨σ', H', J, q⟩ := hs
      exact ⟨.non, H', J.os, J.bare, J.base, J.hok, rfl, q⟩
    · obtain ⟨_, _, _, q⟩ := hs
      exact False.elim q
    · obtain ⟨_, _, _, q⟩ := hs
      exact False.elim q
    · obtain ⟨v, σ', H', J, rv, q⟩ := hs
      exact ⟨v, H', J.os, J.bare, J.base, J.hok, rv, q⟩
/-- a def that may show, as a callee -/
def CalG (P : Program) (w : World) (K : PySem.W.Frag) (mg : Str → Option Value) (base : Heap) (CX : CXT) (x : Str) (ps : List Str) (k : Nat) (sp : Sp) : Prop :=
  ∃ (f : Addr) (fd : FuncData), FnG P w K mg base CX k f fd ps sp ∧ mg x = some (.ref f) ∧ PySem.W.keepIn K (.ref f) = true ∧ Binds K fd ps []
theorem CalG.of {CX : CXT} {x : Str} {ps : List Str} {k : Nat} {sp : Sp} (c : Cal P w K mg base CX x ps k sp) : CalG P w K mg base CX x ps k sp := by
  obtain ⟨f, fd, F, g, kp, b⟩ := c
  exact ⟨f, fd, ⟨F.len, fun A hr _ outer s H args us vs Q E e0 hb r h => F.run A outer s H args us vs Q E hr e0 hb r h⟩, g, kp, b⟩
theorem CalG.mono {CX : CXT} {x : Str} {ps : List Str} {j k : Nat} {sp : Sp} (c : CalG P w K mg base CX x ps j sp) (h : j ≤ k) : CalG P w K mg base CX x ps k sp := by
  obtain ⟨f, fd, F, g, kp, b⟩ := c
  exact ⟨f, fd, ⟨F.len, fun A hr => F.run A (hr.mono h)⟩, g, kp, b⟩
theorem Df.calG {CX : CXT} {x : Str} {st : Stmt} {N ps : List Str} {k : Nat} {sp : Sp} (D : Df K mg x st) (S : FnScope N ps (defScope st))
    (hb : ∀ (kV doc pm : Value) (an : Option Addr) (cdv ct : Value) (us : List Value), us.length = ps.length → bindArgs (PySem.W.fnOf x x (defArgs st) (defBody st) (defScope st) .none kV doc pm an cdv ct) ⟨us, []⟩ = pure (ps.zip us))
    (len : ∀ vs H Q E, sp vs H Q E → vs.length = ps.length)
    (hbody : ∀ (f : Addr) (cdv : Value) (A : Around) (outer : List Env) (s : Shared) (H : Hp) (vs : List V) (Q : VK) (E : XK), Room k (A.deeper (envOfC x (defScope st) s.heap.objs.size f cdv)) → Quiet (A.deeper (envOfC x (defScope st) s.heap.objs.size f cdv)) → sp vs H Q E →
      ∃ t, PSs (cxOf CX P w K mg base N x (defScope st) f cdv A outer s H E) (defBody st) t ∧ t { nx := fun _ H' => Q .non H', rt := Q } (start N vs) H) : CalG P w K mg base CX x ps (k + 1) sp := by
  obtain ⟨f, fd, g, F⟩ := D
  exact ⟨f, fd, fnG_of F S len (hbody f), g, F.kp, F.bindsN hb⟩
end
section
variable {X : Cx} {CX : CXT} {k : Nat} {ps : List Str} {sp : Sp} {E : XK} {x : Str} {p pos : Pos} {e : Expr} {es : List Expr} {t : TA}
theorem pe_calG (c : CalG X.prog X.w X.K X.mg X.base CX x ps k sp) (hr : Room k X.A) (hq : Quiet X.A) (hg : Gl X x) (hx : Passes CX X E) (ha : PA X (e :: es) t) (hdb : (x == ("__debug__" : Str)) = false := by decide)
    (he : starEach (e :: es) X.env = (false, eval e X.env) :: starEach es X.env := by rfl) (hpl : (backTo pos (starEach es X.env)).any (·.1) = false := by rfl) : PE X (.Call (.Name x p) (e :: es) [] pos) (tCall sp [] E t) := by
  obtain ⟨f, fd, F, g, kp, b⟩ := c
  refine ⟨fun pins s σ H Q I h => ?_⟩
  refine wpAny_Call_Name_kw (ld_glob I hg g ?_ hdb)
  refine PySem.W.callWith_K (h₀ := X.base) I.ok.mod.kin kp (thn (ha.run pos pins s σ H _ I h) fun us s1 ⟨vs, H1, I1, r, q⟩ => ⟨I1.kIn, ?_⟩) he hpl
  have r2 : Vals (vs ++ []) (us ++ []) := r.append .nil
  have hl : (us ++ []).length = ps.length := by rw [← r2.length]; exact F.len _ _ _ _ q
  refine wpAny_call (codeAny_mono (F.run X.A hr hq X.stack s1 H1 ⟨us, []⟩ (us ++ []) (vs ++ []) Q E I1.env0 (b s1 us I1.kIn hl) r2 q) fun r s' hc => ?_)
  rcases r with e | (_ | _ | _ | u)
  · exact hx pins σ H1 s1 e s' I1 hc
  · exact False.elim hc
  · exact False.elim hc
  · exact False.elim hc
  · exact I1.after hc
end
section
variable {P : Program} {w : World} {K : PySem.W.Frag} {mg mb : Str → Option Value} {k : Nat} {fa a : Addr} {fd : FuncData} {x : Str} {sp : Sp} {s : Shared} {vs : List Value} {ns : List Int}
/-- what a law's call comes to -/
abbrev LawEnd (s : Shared) (r : Result) (s' : Shared) : Prop := r = .ok (.ret (.bool true)) ∧ OldK s.heap s'.heap ∧ s'.os = s.os ∧ AllBare s'.gens
/-- the script's own list -/
abbrev scriptO (vs : List Value) : Obj := { cls := .type "list", data := .seq vs.toArray }
/-- the law's call, over an abstract heap in which at most the script stands -/
theorem lawG_at (KX : K.In s.heap) (hns : s.heap.Ns mainGlobals mg) (hb : s.heap.Ns builtinsNs mb) (hbb : ∀ x : Str, x ≠ "__name__" → mb x = bootBuiltins x) (hlim : s.heap.NoLimit) (hg : s.gens = #[]) (ha : s.heap.get? a = some (scriptO vs)) (hr : Room k callerA)
    (F : ∀ base : Heap, K.In base → base.Ns mainGlobals mg → FnG P w K mg base CX0 k fa fd [x] sp) (hbind : ∀ (s : Shared) (u : Value), BindsTo s fd ⟨[u], []⟩ [(x, u)])
    (H : Hp) (only : ∀ b u, H b = some u → b = a ∧ (∃ o xs, u = .frz o (.lst xs)) ∧ K.lookup a = none) (hok : HOk P w H s.heap) (hsp : sp [.ref a] H (fun v _ => v = .bl true) fun _ _ _ => False) :
    codeAny (model P w) callerA (.call (.ref fa) ⟨[.ref a], []⟩) (LawEnd s) s := by
  have free : ∀ {b o}, s.heap.get? b = some o → o ≠ scriptO vs → H b = none := fun {b o} e ne => by
    cases q : H b with
    | none => rfl
    | some u =>
      obtain ⟨rfl, _⟩ := only b u q
      rw [ha] at e
      exact absurd (Option.some.inj e).symm ne
  have nsH : ∀ {b m}, s.heap.Ns b m → (hidT s.heap H).Ns b m := fun {b m} ⟨o, es, ep, e, d, r⟩ => ⟨o, es, ep, hidT_get e (free e fun z => by rw [z] at d; cases d), d, r⟩
  have KH : K.In (hidT s.heap H) := fun b o e => by
    refine hidT_get (KX b o e) ?_
    cases q : H b with
    | none => rfl
    | some u =>
      obtain ⟨rfl, _, n⟩ := only b u q
      rw [n] at e; cases e
  obtain ⟨mc, l1, l2⟩ := hlim
  have e0 : Env0 P w K mg (hidT s.heap H) callerA [] s H := ⟨rfl, ⟨KH, nsH hns, ⟨mb, nsH hb, hbb⟩, mc, nsH l1, l2⟩, fun b o e => of_hidT e, Nat.le_of_eq (hidT_size _ _), trivial, (fun b hb => by cases hb), hok, .of_eq hg⟩
  refine codeAny_mono ((F _ KH (nsH hns)).run callerA hr rfl [] s H ⟨[.ref a], []⟩ [.ref a] [.ref a] _ _ e0 (hbind s (.ref a)) (.cons rfl .nil) hsp) fun r s' h => ?_
  rcases r with e | (_ | _ | _ | u)
  · exact False.elim h
  · exact False.elim h
  · exact False.elim h
  · exact False.elim h
  · obtain ⟨v, H', os, bare, un, hok', rv, q⟩ := h
    obtain rfl : v = .bl true := q
    obtain rfl : u = Value.bool true := rv
    refine ⟨rfl, OldK.of_keep fun b o e => ?_, os, bare⟩
    cases q : H b with
    | none => exact un.keep b o e q (fun z => by cases z) (fun z => by cases z)
    | some u =>
      obtain ⟨_, ⟨ob, xs, rfl⟩, _⟩ := only b u q
      obtain ⟨e1, _⟩ := hok b _ q
      obtain ⟨e2, _⟩ := hok' b _ (un.frzs b ob _ q)
      rw [e] at e1; cases e1
      exact e2
/-- the two ways: the script is an object of the module, or it is new -/
theorem lawG_call (KX : K.In s.heap) (hns : s.heap.Ns mainGlobals mg) (hb : s.heap.Ns builtinsNs mb) (hbb : ∀ x : Str, x ≠ "__name__" → mb x = bootBuiltins x) (hlim : s.heap.NoLimit) (hg : s.gens = #[]) (ha : s.heap.get? a = some (scriptO vs)) (hi : IntsAre vs ns) (hl : ns.length ≤ sizeLine) (hr : Room k callerA)
    (F : ∀ base : Heap, K.In base → base.Ns mainGlobals mg → FnG P w K mg base CX0 k fa fd [x] sp) (hbind : ∀ (s : Shared) (u : Value), BindsTo s fd ⟨[u], []⟩ [(x, u)])
    (hsp : ∀ H : Hp, SqL K H a (ns.map V.int) → sp [.ref a] H (fun v _ => v = .bl true) fun _ _ _ => False) :
    codeAny (model P w) callerA (.call (.ref fa) ⟨[.ref a], []⟩) (LawEnd s) s := by
  have rv := vals_ints hi
  have lenV := hi.length
  cases hk : K.lookup a with
  | some o =>
    have e := KX a o hk
    rw [ha] at e
    cases e
    refine lawG_at KX hns hb hbb hlim hg ha hr F hbind (fun _ => none) (fun b u z => by cases z) (fun b u z => by cases z) (hsp _ (.inr ⟨_, vs.toArray, _, hk, rfl, rfl, rfl, ?_, by simpa using rv⟩))
    rw [List.size_toArray, lenV]; exact hl
  | none =>
    refine lawG_at KX hns hb hbb hlim hg ha hr F hbind (fun b => if b = a then some (.frz (scriptO vs) (.lst (ns.map V.int))) else none) (fun b u z => ?_) (fun b u z => ?_) (hsp _ (.inl (.inr ⟨scriptO vs, if_pos rfl⟩)))
    · by_cases e : b = a
      · rw [if_pos e] at z; cases z
        exact ⟨e, ⟨_, _, rfl⟩, hk⟩
      · rw [if_neg e] at z; cases z
    · by_cases e : b = a
      · subst e
        have z2 := (if_pos rfl).symm.trans z
        cases z2
        exact ⟨ha, by rw [List.length_map]; exact hl, vs, _, rv, ha⟩
      · have z2 := (if_neg e).symm.trans z
        cases z2
end
/-- a law whose defs may show -/
theorem walk_ofG {l : PySem.W.OpenLaw} {n k : Nat} {q : Program} {loose : List Str} {XP : (Str → Option Value) → Heap → Prop} {YP : World → Heap → Prop} {d : DefRec} {x : Str} (hn : l.most = some n) (hn2 : n ≤ sizeLine) (hdf : d.params.defaults = []) (hr : Room k callerA)
    (F : ∀ (w : World) (mg : Str → Option Value) (fa : Addr) (h : Heap), YP w h → h.Ns mainGlobals mg → mg d.name = some (.ref fa) →
      ∃ (K : PySem.W.Frag) (fd : FuncData) (sp : Sp), K.In h ∧ (∀ (s : Shared) (u : Value), BindsTo s fd ⟨[u], []⟩ [(x, u)]) ∧ (∀ (H : Hp) (a : Addr) (ns : List Int), ns.length ≤ n → SqL K H a (ns.map V.int) → sp [.ref a] H (fun v _ => v = .bl true) fun _ _ _ => False) ∧
        ∀ base : Heap, K.In base → base.Ns mainGlobals mg → FnG l.prog w K mg base CX0 k fa fd [x] sp) : PySem.W.WalkO q loose XP YP l.row.toRowW d [] (fun f vs => PySem.call f vs) := by
  refine Att.attach_call hn hdf fun w s₀ s₁ mg mb fa o pm cd doc a vs ns G Y _ _ _ hmg hobj hints hlen hg => ?_
  obtain ⟨K, fd, sp, KX, hb, hsp, hF⟩ := F w mg fa _ Y G.T.g hmg
  exact lawG_call KX G.T.g G.T.b G.T.builtins G.T.nolimit hg hobj hints (Nat.le_trans hlen hn2) hr hF hb fun H hS => hsp H a ns hlen hS
section
variable {X : Cx} {k : Nat}
/-- repr(x), x a list or a tuple of plain data -/
abbrev rRepr (K : PySem.W.Frag) : List V → Hp → VK → Prop := fun xs H Q => ∃ (a : Addr) (d : PyData), xs = [.ref a] ∧ Dp K H (.ref a) d ∧ d.showable = true ∧ d.hasDict = false ∧ d.depth ≤ 100 ∧ d.shown.length ≤ sizeLine ∧ Q (.str d.shown) H
theorem call_repr (hr : Room k X.A) (hq : Quiet X.A) : CallR X (.builtin "repr") (rRepr X.K) := by
  intro pins s σ H xs us Q I r h
  obtain ⟨a, d, rfl, hd, h1, h2, h3, h4, q⟩ := h
  obtain ⟨u, rfl, ru⟩ := r.one
  obtain ⟨as, rd⟩ := Dp.reads I d (.ref a) u hd ru
  obtain rfl : u = Value.ref a := ru
  refine repr_of_reads' rd h1 (fun z => by rw [h2] at z; cases z) hq (by have := hr.un; omega) (fun b o e => e) (fun h' t tk hk => ⟨.str d.shown, H, I.kept fun b o e => hk b o e, ⟨t, rfl⟩, q⟩) h4
end
end Tw
set_option Elab.async false
set_option linter.all false
set_option maxRecDepth 100000
set_option maxHeartbeats 4000000
/-! zip of a text and of a tuple, walked by a for -/
namespace Tw
open PySem PySem.Spec PyProof.Rows L2
def ItzS (K : PySem.W.Frag) (x : Str) (b : Addr) : It :=
  ⟨fun i H => ∃ (ys : List V) (y : V), i < x.cps.size ∧ SqT K H b ys ∧ ys[i]? = some y,
    fun i H v H' => ∃ T c y, v = .ref T ∧ H T = none ∧ H' = upd H T (.tup [.str ⟨#[c]⟩, y]) ∧ x.cps[i]? = some c ∧ ∀ ys, SqT K H b ys → ys[i]? = some y,
    fun i H => ∃ ys : List V, SqT K H b ys ∧ i ≤ x.cps.size ∧ i ≤ ys.length ∧ (i = x.cps.size ∨ i = ys.length)⟩
theorem turn_zipS {P : Program} {w : World} {K : PySem.W.Frag} {elts : List Expr} {kk : Nat} {tpos : Pos} {b z TI TO i1 i2 : Addr} {x : Str} {t : Tok} (D : ZipSep2 z TI TO i1 i2 [i1] [i2, b]) (hb : b ≠ i2) :
    Turn P w K (.Tuple elts kk tpos) (ItzS K x b) [z, TI, TO, i1, i2] z (fun i h => IsZip h z TI TO .none ∧ IsTupOf2 h TI (.ref i1) (.ref i2) ∧ (∃ x y, IsTupOf2 h TO x y) ∧ h.IsStrIter i1 (strIterType x) x t i ∧ h.IsTupleIter i2 b i) where
  mem := by simp
  obj := fun i h st c hc => by
    obtain ⟨hz, hTI, ⟨x, y, hTO⟩, ⟨o1, e1, _, d1⟩, ⟨o2, e2, _, d2⟩⟩ := st
    have e' : c = z ∨ c = TI ∨ c = TO ∨ c = i1 ∨ c = i2 := by simpa using hc
    rcases e' with q | q | q | q | q
    · rw [q]; exact ⟨_, hz, fun v q => nomatch q⟩
    · rw [q]; exact ⟨_, hTI, fun v q => nomatch q⟩
    · rw [q]; exact ⟨_, hTO, fun v q => nomatch q⟩
    · rw [q]; exact ⟨o1, e1, fun v q => by rw [d1] at q; cases q⟩
    · rw [q]; exact ⟨o2, e2, fun v q => by rw [d2] at q; cases q⟩
  keep := fun i h h' st k => by
    obtain ⟨hz, hTI, ⟨x, y, hTO⟩, ⟨o1, e1, r1⟩, h2⟩ := st
    exact ⟨k z (by simp) _ hz, k TI (by simp) _ hTI, ⟨x, y, k TO (by simp) _ hTO⟩, ⟨o1, k i1 (by simp) _ e1, r1⟩, h2.at fun o q => k i2 (by simp) o q⟩
  item := by
    intro X hP hw hK hc i pins s σ H E I hf st hg
    subst hP hw hK
    obtain ⟨hz, hTI, ⟨x0, y0, hTO⟩, h1, h2⟩ := st
    obtain ⟨ys, y, hix, hqy, hy⟩ := hg
    obtain ⟨its2, rv2, p2, _⟩ := I.tuple hqy
    obtain ⟨u2, hu2, ru2⟩ := rv2.get hy
    have hzl : z < s.heap.objs.size := Heap.lt_size hz
    have hh : X.A.in1.handled = none := I.ok.hd hc
    have hi2 : i < its2.toArray.size := by
      have : i < its2.length := (List.getElem?_eq_some_iff.mp hu2).1
      simpa using this
    refine wpAny_pyNext_zipD2_item D (Draws.text hh i1 x t) (Draws.tuple hh i2 b hb its2.toArray) hz hTI hTO h1 ⟨h2, p2⟩ hix hi2 fun v1 v2 h' tk ⟨c, u, hcx, ev⟩ hv2 z' TO' h1' h2' hT hsz hk => ?_
    subst ev
    have e2 : v2 = u2 := by
      have : its2[i]? = some v2 := by simpa using hv2
      rw [hu2] at this
      exact (Option.some.inj this).symm
    subst e2
    refine ⟨_, rfl, wpAny_letOwnedTupleGo_zip (s := { s with heap := h', toks := tk }) z' fun h'' z'' sb => ?_⟩
    have hT2 : h''.get? s.heap.objs.size = some { cls := .type "tuple", data := .seq #[.str ⟨#[c]⟩ u, v2] } := (sb.2 _ (Nat.ne_of_gt hzl)).trans hT
    have new : ObjOk X.prog X.w (upd H s.heap.objs.size (.tup [.str ⟨#[c]⟩, y])) h'' s.heap.objs.size (.tup [.str ⟨#[c]⟩, y]) :=
      ⟨by show 2 ≤ sizeLine; decide, [.str ⟨#[c]⟩ u, v2], .cons ⟨u, rfl⟩ (.cons ru2 .nil), ⟨_, hT2, rfl, _, rfl⟩⟩
    have I1 : Inv X pins σ (upd H s.heap.objs.size (.tup [.str ⟨#[c]⟩, y])) { s with heap := h'', toks := tk } :=
      I.turnedNew (t' := tk) (ch := [z, TI, TO, i1, i2]) (fun c o hb q => (sb.2 c (fun q' => hb (by simp [q']))).trans (hk c o (fun q' => hb (by simp [q'])) (fun q' => hb (by simp [q'])) (fun q' => hb (by simp [q'])) (fun q' => hb (by simp [q'])) q)) hf (Nat.le_refl _) new
    refine ⟨.ref s.heap.objs.size, _, I1, rfl, ⟨_, c, y, rfl, I.hok.fresh (Nat.le_refl _), rfl, hcx, fun l hl => by rw [I.tuple_inj hl hqy]; exact hy⟩, ⟨z'', ?_, ⟨.str ⟨#[c]⟩ u, v2, ?_⟩, ?_, ?_⟩, fun c hcm => ?_⟩
    · exact (sb.2 _ D.TIz).trans (hk _ _ D.TIz D.TITO D.TIi1 D.TIi2 hTI)
    · exact (sb.2 _ D.TOz).trans TO'
    · obtain ⟨o1, e1, r1⟩ := h1'
      exact ⟨o1, (sb.2 _ (fun q => D.zi1 q.symm)).trans e1, r1⟩
    · exact h2'.1.at fun o q => (sb.2 _ (fun q => D.zi2 q.symm)).trans q
    · have hlt : c < s.heap.objs.size := by
        have e' : c = z ∨ c = TI ∨ c = TO ∨ c = i1 ∨ c = i2 := by simpa using hcm
        rcases e' with q | q | q | q | q
        · rw [q]; exact hzl
        · rw [q]; exact Heap.lt_size hTI
        · rw [q]; exact Heap.lt_size hTO
        · rw [q]; obtain ⟨_, e1, _⟩ := h1; exact Heap.lt_size e1
        · rw [q]; obtain ⟨_, e2, _⟩ := h2; exact Heap.lt_size e2
      rw [upd_ne (Nat.ne_of_lt hlt)]
      exact (hf c hcm).1
  done := by
    intro X hP hw hK hc i pins s σ H E I hf st hg
    subst hP hw hK
    obtain ⟨hz, hTI, ⟨x0, y0, hTO⟩, h1, h2⟩ := st
    obtain ⟨ys, hqy, hl1, hl2, hend⟩ := hg
    obtain ⟨its2, rv2, p2, _⟩ := I.tuple hqy
    have l2 := rv2.length
    have hh : X.A.in1.handled = none := I.ok.hd hc
    have l3 : its2.toArray.size = ys.length := by simp [l2]
    exact wpAny_pyNext_zipD2_end D (Draws.text hh i1 x t) (Draws.tuple hh i2 b hb its2.toArray) hz hTI hTO h1 ⟨h2, p2⟩ hl1 (by rw [l3]; exact hl2) (by rw [l3]; exact hend) fun h' tk hk => ⟨rfl, I.turnedL (t' := tk) (ch := [z, TI, TO, i1, i2]) (fun c o hb q =>
      hk c o (fun q' => hb (by simp [q'])) (fun q' => hb (by simp [q'])) (fun q' => hb (by simp [q'])) (fun q' => hb (by simp [q'])) q) hf⟩
  self := fun A i s Q E st h => wpAny_pyIter_zip st.1 h
abbrev iZipS (K : PySem.W.Frag) (ta : TA) : TI := fun σ H R => ta σ H fun vs H1 => ∃ x b ys, vs = [.str x, .ref b] ∧ SqT K H1 b ys ∧ R (ItzS K x b) H1
theorem pi_zipS {X : Cx} {e e2 : Expr} {ta : TA} {p pos tpos : Pos} {elts : List Expr} {kk : Nat} (hg : Gl X "zip") (hm : X.mg "zip" = none) (ha : PA X [e, e2] ta)
    (hs : starEach [e, e2] X.env = (false, eval e X.env) :: starEach [e2] X.env := by rfl) (hpl : (backTo pos (starEach [e2] X.env)).any (·.1) = false := by rfl) :
    PI X (.Tuple elts kk tpos) (.Call (.Name "zip" p) [e, e2] [] pos) (iZipS X.K ta) := by
  refine ⟨fun pins s σ H R I h => ?_⟩
  refine Call_ (ld_blt I hg hm PyProof.Rows.boot_zip (PyProof.Rows.callWith_type1 (thn (ha.run pos pins s σ H _ I h) fun us s1 ⟨vs, H1, I1, r1, q1⟩ => ?_) hs hpl))
  obtain ⟨x, b, ys, ex, hqy, q⟩ := q1
  subst ex
  cases r1 with
  | cons r rr =>
    cases rr with
    | cons r' rr =>
      cases rr
      obtain ⟨t, rfl⟩ := r
      cases r'
      have fresh5 : ∀ c, c ∈ [s1.heap.objs.size + 4, s1.heap.objs.size + 2, s1.heap.objs.size + 3, s1.heap.objs.size, s1.heap.objs.size + 1] → FpOk X pins H1 c := fun c hcm => by
        have e' : c = s1.heap.objs.size + 4 ∨ c = s1.heap.objs.size + 2 ∨ c = s1.heap.objs.size + 3 ∨ c = s1.heap.objs.size ∨ c = s1.heap.objs.size + 1 := by simpa using hcm
        have hle : s1.heap.objs.size ≤ c := by
          rcases e' with z | z | z | z | z
          · rw [z]; exact Nat.le_add_right _ _
          · rw [z]; exact Nat.le_add_right _ _
          · rw [z]; exact Nat.le_add_right _ _
          · rw [z]; exact Nat.le_refl _
          · rw [z]; exact Nat.le_add_right _ _
        exact I1.fpOk hle (I1.hok.fresh hle)
      obtain ⟨its2, rv2, p2, _⟩ := I1.tuple hqy
      obtain ⟨o2, ho2, _⟩ := id p2
      have hlt : b < s1.heap.objs.size := Heap.lt_size ho2
      refine zip_begins2 (begins_text x t) (begins_tuple b its2.toArray) trivial p2 fun h' hz hTI hTO h1 h2 hsz hk => wpAny_pyIter_zip hz ?_
      have I2 : Inv X pins σ H1 { s1 with heap := h' } := I1.kept (t' := s1.toks) hk
      refine ⟨s1.heap.objs.size + 4, [s1.heap.objs.size + 4, s1.heap.objs.size + 2, s1.heap.objs.size + 3, s1.heap.objs.size, s1.heap.objs.size + 1], _, _, H1, rfl, I2, turn_zipS (x := x) (t := t) (zip_sep2 (fp1 := []) (fp2 := [b]) (by simp) (by simpa using hlt)) (Nat.ne_of_lt (Nat.lt_succ_of_lt hlt)), ⟨hz, hTI, ⟨_, _, hTO⟩, ⟨_, h1, rfl, rfl⟩, ⟨_, h2, rfl, rfl⟩⟩, fresh5, q⟩
end Tw
set_option Elab.async false
set_option linter.all false
set_option maxRecDepth 100000
set_option maxHeartbeats 4000000
/-! the program's table of words: a dict of the written part with texts -/
namespace Tw
open PySem PySem.Spec PyProof.Rows L2
/-- the table at F: its keys and texts -/
structure FormsAt (K : PySem.W.Frag) (w : World) (F : Addr) (l : List (Str × Str)) : Prop where
  dict : ∃ es n, KDict K w F es n
  at_ : ∀ q ∈ l, ∃ u, PySem.W.nsIn K F q.1 = some (some u) ∧ RelV (.str q.2) u
  no : ∀ z, z ∉ l.map (·.1) → PySem.W.nsIn K F z = some none
theorem FormsAt.dct {K : PySem.W.Frag} {w : World} {F : Addr} {l : List (Str × Str)} (h : FormsAt K w F l) {q : Str × Str} (hq : q ∈ l) : KDct K w F q.1 (.str q.2) := by
  obtain ⟨es, n, D⟩ := h.dict
  obtain ⟨u, e, r⟩ := h.at_ q hq
  exact ⟨es, n, u, D.at_, D.lit, e, r⟩
theorem keyOf_str {e : DictEntry} {x : Str} {i : Int} (h : He.keyOf e = some (x, i)) : ∃ t, e.key = .str x t := by
  unfold He.keyOf at h
  split at h
  · rename_i y t q
    injection h with h3
    injection h3 with h4 _
    exact ⟨t, by rw [← h4]; exact q⟩
  · cases h
theorem keys_none {P : Params} {z : Str} : ∀ {l : List DictEntry} {ks : List Str}, l.map He.keyOf = He.keysIn P ks → z ∉ ks → l.find? (fun e => e.key.isStr z) = none ∧ l.any (·.refKey) = false
  | [], _, _, _ => ⟨rfl, rfl⟩
  | e :: r, [], h, _ => by cases h
  | e :: r, k :: ks, h, hz => by
    have h1 : He.keyOf e :: r.map He.keyOf = some (k, PyData.keyHash P k) :: He.keysIn P ks := h
    injection h1 with h2 h3
    obtain ⟨t, ek⟩ := keyOf_str h2
    obtain ⟨i1, i2⟩ := keys_none (z := z) h3 (fun q => hz (List.mem_cons_of_mem _ q))
    have hk : ¬ k = z := fun q => hz (by rw [q]; exact List.mem_cons_self ..)
    have e1 : e.key.isStr z = false := by
      rw [ek]
      have : ¬ (Value.str k t).isStr z = true := fun q => by
        have q2 : (k == z) = true := q
        exact hk (eq_of_beq q2)
      simpa using this
    have e2 : e.refKey = false := by unfold DictEntry.refKey; rw [ek]
    exact ⟨by rw [List.find?_cons, e1]; exact i1, by rw [List.any_cons, e2, i2]; rfl⟩
theorem dicW_none {K : PySem.W.Frag} {P : Params} {a : Addr} {ks : List Str} {z : Str} (h : He.dicW K a = some (He.keysIn P ks)) (hz : z ∉ ks) : PySem.W.nsIn K a z = some none := by
  unfold He.dicW at h
  unfold PySem.W.nsIn
  cases q : K.lookup a with
  | none => rw [q] at h; cases h
  | some o =>
    obtain ⟨oc, od, dt, osl⟩ := o
    rw [q] at h
    cases oc with
    | type c =>
      cases od with
      | none =>
        cases dt with
        | dict es n =>
          have h1 : (match decide (c = "dict") && (osl.isEmpty && !(a == sysModules)) with
            | true => some (es.toList.map He.keyOf)
            | false => none) = some (He.keysIn P ks) := h
          cases hc : decide (c = "dict") && (osl.isEmpty && !(a == sysModules)) with
          | false => rw [hc] at h1; cases h1
          | true =>
            rw [hc] at h1
            obtain ⟨i1, i2⟩ := keys_none (z := z) (Option.some.inj h1) hz
            show (match es.toList.find? (fun e => e.key.isStr z) with
              | some e => some (some e.val)
              | none => if es.toList.any (·.refKey) then none else some none) = some none
            rw [i1, i2]
            rfl
        | _ => cases h
      | some b => cases dt <;> cases h
    | _ => cases od <;> cases dt <;> cases h
/-- the tables of a head: where, their texts -/
abbrev Tb : Type := (PySem.W.Frag → Addr) × List (Str × Str)
def tabs (l : List (Str × List (Str × Str))) : List He.Tab := l.map fun q => ((fun K => He.ga K q.1), q.2.map (·.1))
def tabsV (l : List (Str × List (Str × Str))) (K : PySem.W.Frag) : Bool := l.all fun q => He.valsB K (He.ga K q.1) (q.2.map fun p => (p.1, .str p.2))
theorem formsAt_of {fa : List He.Fa} {fn : List He.DefD} {l : List (Str × List (Str × Str))} {tf : List He.Defn} {w : World} {h : Heap} {K : PySem.W.Frag} (c : He.SaysX fa fn (tabs l) tf (tabsV l) w h K) (i : Nat) {x : Str} {t : List (Str × Str)} (e : l[i]? = some (x, t)) :
    FormsAt K w (He.ga K x) t := by
  have et : (tabs l)[i]? = some ((fun K => He.ga K x), t.map (·.1)) := by
    unfold tabs; rw [List.getElem?_map, e]; rfl
  have hm := List.all_eq_true.mp c.more (x, t) (List.mem_of_getElem? e)
  refine ⟨c.t.tab i et, fun q hq => ?_, fun z hz => ?_⟩
  · obtain ⟨u, e1, r⟩ := He.valsB_ok hm (q := (q.1, .str q.2)) (List.mem_map_of_mem (f := fun p : Str × Str => ((p.1, He.Dv.str p.2) : Str × He.Dv)) hq)
    exact ⟨u, e1, r⟩
  · have e2 : (tabs l).map (fun t => He.dicW K (t.1 K)) = (tabs l).map fun t => some (He.keysIn w.params t.2) := congrArg (fun z : He.AlT => z.2) c.t
    have e3 : ((tabs l).map (fun t => He.dicW K (t.1 K)))[i]? = ((tabs l).map fun t => some (He.keysIn w.params t.2))[i]? := by rw [e2]
    rw [List.getElem?_map, List.getElem?_map, et] at e3
    exact dicW_none (Option.some.inj e3) hz
/-- what each item behind a word stands for -/
def formsL : List (Str × Str) := [("first", "oo"), ("last", "oo"), ("ahead", "oo"), ("behind", "oo"), ("front", "o"), ("back", "o"), ("swap", "oo"), ("turn", "oo"), ("lift", "o"), ("cut", "o"), ("pour", "oo"), ("wrap", "on"), ("put", "no")]
end Tw
set_option Elab.async false
set_option linter.all false
set_option maxRecDepth 100000
set_option maxHeartbeats 4000000
/-! x in TABLE, x not in TABLE -/
namespace Tw
open PySem PySem.Spec PyProof.Rows L2
abbrev rInF (b : Bool) (F : Addr) (l : List (Str × Str)) : R2 := fun x y H Q => ∃ z : Str, x = .str z ∧ y = .ref F ∧ Q (.bl (b != decide (z ∈ l.map (·.1)))) H
section
variable {X : Cx} {F : Addr} {l : List (Str × Str)}
theorem FormsAt.has {K : PySem.W.Frag} {w : World} (h : FormsAt K w F l) (z : Str) : ∃ r, PySem.W.nsIn K F z = some r ∧ r.isSome = decide (z ∈ l.map (·.1)) := by
  by_cases hz : z ∈ l.map (·.1)
  · obtain ⟨q, hq, e⟩ := List.mem_map.mp hz
    obtain ⟨u, e1, _⟩ := h.at_ q hq
    refine ⟨some u, by rw [← e]; exact e1, by simp only [Option.isSome_some]; exact (decide_eq_true hz).symm⟩
  · exact ⟨none, h.no z hz, by simp only [Option.isSome_none]; exact (decide_eq_false hz).symm⟩
theorem op_in_F (h : FormsAt X.K X.w F l) : OpR X (compareOp .In) (rInF false F l) := by
  intro pins s σ H x y v u Q I rx ry ⟨z, ex, ey, q⟩
  obtain ⟨es, n, D⟩ := h.dict
  obtain ⟨r, e1, e2⟩ := h.has z
  refine op_in_kd D pins s σ H x y v u Q I rx ry ⟨z, r, ex, ey, e1, ?_⟩
  rw [e2]; simpa using q
theorem op_notIn_F (h : FormsAt X.K X.w F l) : OpR X (compareOp .NotIn) (rInF true F l) := by
  intro pins s σ H x y v u Q I rx ry ⟨z, ex, ey, q⟩
  obtain ⟨es, n, D⟩ := h.dict
  obtain ⟨r, e1, e2⟩ := h.has z
  refine op_notIn_kd D pins s σ H x y v u Q I rx ry ⟨z, r, ex, ey, e1, ?_⟩
  rw [e2]; simpa using q
end
end Tw
set_option Elab.async false
set_option linter.all false
set_option maxRecDepth 100000
set_option maxHeartbeats 4000000
/-! old and new names of deeds, as the laws tell them -/
namespace Tw
open PySem PySem.Spec PyProof.Rows L2 TL
local macro_rules | `(tactic| walk_at "rd") => `(tactic| try simp only [o_op, o_un, o_var, o_c, o_cb, o_call, o_cons, o_nil, o_tup, o_lst, o_I0, o_I, o_int1, o_intb, o_abs, o_test, o_b, o_not, o_and, o_or, o_andV, o_orV, o_notV, o_ifE, o_isN, o_notN, o_eq, o_ne, o_seq, o_next, o_asg, o_name, o_sub, o_par, o_par3, o_drop, o_ret, o_retN, o_ifS, o_sl, o_noPart, o_part, o_bm, o_bm0, o_m0, o_m1, o_dget, o_dput, o_din, o_dnotin, o_listKeys, e_bl, e_int, e_str, e_some, e_two, e_three, o_for, o_lc, o_iList, o_iTup, o_iRng1, e_int1, e_ref, o_yes, o_wipe0, o_wipe1, o_disp, o_dnew, o_pairs0, o_pairs1, o_lock, o_keysM, o_gtup, o_gcons, o_gnil, o_rU, o_tru, o_revT, o_enumT, o_from, true_and, if_pos, List.getElem?_cons_zero, List.getElem?_cons_succ, List.set_cons_zero, List.set_cons_succ, List.append_nil])
def madeOf (w : Str) : Nat := if w = "wrap" then 2 else if w = "put" then 1 else 0
/-- the names of a deed taken up, from the k-th on -/
def roleNames (made : Nat) : Nat → List Str → List Str × List Str → List Str × List Str
  | _, [], r => r
  | k, n :: ns, r => roleNames made (k + 1) ns (if n ∈ r.1 ++ r.2 then r else if k = made then (r.1, r.2 ++ [n]) else (r.1 ++ [n], r.2))
def roles : List Deed → List Str × List Str → List Str × List Str
  | [], r => r
  | d :: ds, r => roles ds (roleNames (madeOf d.word) 1 d.names r)
/-- these values are the deeds -/
inductive Ds (K : PySem.W.Frag) (H : Hp) : List V → List Deed → Prop where
  | nil : Ds K H [] []
  | cons {p : Addr} {d : Deed} {vs : List V} {ds : List Deed} : DeedAt K H p d → Ds K H vs ds → Ds K H (.ref p :: vs) (d :: ds)
def DeedsAt (K : PySem.W.Frag) (H : Hp) (a : Addr) (ds : List Deed) : Prop := ∃ vs, SqT K H a vs ∧ Ds K H vs ds
theorem Ds.mono {K : PySem.W.Frag} {H H' : Hp} (t : Tk K H H') {vs : List V} {ds : List Deed} (h : Ds K H vs ds) : Ds K H' vs ds := by
  induction h with
  | nil => exact .nil
  | cons a _ ih => exact .cons (t _ _ a) ih
theorem Ds.len {K : PySem.W.Frag} {H : Hp} {vs : List V} {ds : List Deed} (h : Ds K H vs ds) : vs.length = ds.length := by
  induction h with
  | nil => rfl
  | cons _ _ ih => simp [ih]
theorem Ds.at {K : PySem.W.Frag} {H : Hp} : ∀ {i : Nat} {vs : List V} {ds : List Deed} {v : V}, Ds K H vs ds → vs[i]? = some v → ∃ p d, v = .ref p ∧ ds[i]? = some d ∧ DeedAt K H p d
  | _, _, _, _, .nil, h => by simp at h
  | 0, _, _, _, .cons a _, h => ⟨_, _, (Option.some.inj (show some _ = some _ from h)).symm, rfl, a⟩
  | i + 1, _, _, _, .cons _ b, h => by
    obtain ⟨p, d, e, h1, h2⟩ := Ds.at (i := i) b (by simpa using h)
    exact ⟨p, d, e, by simpa using h1, h2⟩
theorem roleNames_len (made : Nat) : ∀ (ns : List Str) (k : Nat) (r : List Str × List Str), (roleNames made k ns r).1.length + (roleNames made k ns r).2.length ≤ r.1.length + r.2.length + ns.length
  | [], _, _ => Nat.le_refl _
  | n :: ns, k, r => by
    unfold roleNames
    refine Nat.le_trans (roleNames_len made ns (k + 1) _) ?_
    rw [List.length_cons]
    split
    · omega
    · split
      · simp only [List.length_append, List.length_cons, List.length_nil]; omega
      · simp only [List.length_append, List.length_cons, List.length_nil]; omega
/-- sorted(xs), texts: what it gives -/
def Asc (ys xs : List Str) : Prop := ys.Perm xs ∧ sortedS ys = true
def sp_l_roles (K : PySem.W.Frag) : Sp := fun vs H Q _ => ∃ (t : Addr) (ds : List Deed), vs = [.ref t] ∧ DeedsAt K H t ds ∧ ds.length ≤ 30 ∧ (∀ d ∈ ds, d.names.length ≤ 2) ∧
  ∀ (p o n : Addr) (ys zs : List Str) (H' : Hp), Kp H H' → SqT K H' p [.ref o, .ref n] → SqT K H' o (ys.map V.str) → SqT K H' n (zs.map V.str) → Asc ys (roles ds ([], [])).1 → Asc zs (roles ds ([], [])).2 → Q (.ref p) H'
def t_l_roles_b1 (K : PySem.W.Frag) : TS :=
  (tIfS (tTest (tOp (rIn K true) (tOp (rIxT K) (tVar 3) (tVar 5)) (tOp rCat (tVar 1) (tVar 2)))) (tIfS (tTest (tOp rEq (tVar 5) (tVar 4))) (tDrop (tBM K "list" rAppend (tVar 2) (tCons (tOp (rIxT K) (tVar 3) (tVar 5)) tNil))) (tDrop (tBM K "list" rAppend (tVar 1) (tCons (tOp (rIxT K) (tVar 3) (tVar 5)) tNil)))) tNext)
def t_l_roles_b2 (K : PySem.W.Frag) : TS :=
  (tSeq (tAsg (tDGet2 (tDisp [((tC (.str "wrap")), (tC (.int 2))), ((tC (.str "put")), (tC (.int 1)))]) (tOp (rIxT K) (tVar 3) (tC (.int 0))) (tC (.int 0))) (gName 4))
  (tFor (iRng2 (tCons (tC (.int 1)) (tCons (tCB (rLenSeq K) (tCons (tVar 3) tNil)) tNil))) (gName 5)
  (t_l_roles_b1 K)))
def t_l_roles (K : PySem.W.Frag) : TS :=
  (tSeq (tPar 1 2 (tCons (tLst tNil) (tCons (tLst tNil) tNil)))
  (tSeq (tFor (iTup K (tVar 0)) (gName 3)
  (t_l_roles_b2 K))
  (tRet (tTup (tCons (tCB (rTupleOf K) (tCons (tCB (rSortedS K) (tCons (tVar 1) tNil)) tNil)) (tCons (tCB (rTupleOf K) (tCons (tCB (rSortedS K) (tCons (tVar 2) tNil)) tNil)) tNil))))))
theorem o_dget2 {td ty tx : TE} {σ : L2.St} {H : Hp} {Q : VK} : tDGet2 td ty tx σ H Q = td σ H fun x H1 => ∃ a, x = .ref a ∧ IsD H1 a ∧ ty σ H1 fun y H2 => tx σ H2 fun z H3 => ∃ o, DGet H3 a y o ∧ Q (o.getD z) H3 := rfl
theorem o_iRng2 {ta : TA} {σ : L2.St} {H : Hp} {R : It → Hp → Prop} : iRng2 ta σ H R = ta σ H fun vs H1 => ∃ i j : Int, vs = [.int i, .int j] ∧ (-(2 ^ 62) ≤ i ∧ i < 2 ^ 62 ∧ -(2 ^ 62) ≤ j ∧ j < 2 ^ 62) ∧ R (Itr i (j - i).toNat) H1 := rfl
section
variable {K : PySem.W.Frag}
theorem len_l_roles (vs : List V) (H : Hp) (Q : VK) (E : XK) (h : sp_l_roles K vs H Q E) : vs.length = 1 := by
  obtain ⟨_, _, rfl, _⟩ := h; rfl
theorem made_get (w : Str) : ((valV (mergeK [] [((Sum.inr ("wrap" : Str) : Key), V.int 2), ((Sum.inr ("put" : Str) : Key), V.int 1)]) (Sum.inr w)).getD (.int 0)) = .int (madeOf w : Nat) := by
  have e : mergeK [] [((Sum.inr ("wrap" : Str) : Key), V.int 2), ((Sum.inr ("put" : Str) : Key), V.int 1)] = [((Sum.inr ("wrap" : Str) : Key), V.int 2), ((Sum.inr ("put" : Str) : Key), V.int 1)] := by
    unfold mergeK
    simp only [List.foldl_cons, List.foldl_nil]
    rw [show putK ([] : List (Key × V)) (Sum.inr ("wrap" : Str)) (V.int 2) = [((Sum.inr ("wrap" : Str) : Key), V.int 2)] from rfl, putK_new _ (by
      rw [valV_neg (fun h => absurd (Sum.inr.inj h) (by decide +kernel)), valV_nil])]
    rfl
  rw [e]
  unfold madeOf
  by_cases h1 : w = "wrap"
  · subst h1; rw [valV_pos rfl, if_pos rfl]; rfl
  · rw [valV_neg (fun h => h1 (Sum.inr.inj h).symm), if_neg h1]
    by_cases h2 : w = "put"
    · subst h2; rw [valV_pos rfl, if_pos rfl]; rfl
    · rw [valV_neg (fun h => h2 (Sum.inr.inj h).symm), if_neg h2, valV_nil]; rfl
theorem o_notinL {H : Hp} {Q : VK} {t : Addr} {n : Str} {zs : List Str} (ht : H t = some (.lst (zs.map V.str))) (q : Q (.bl (!decide (n ∈ zs))) H) : rIn K true (.str n) (.ref t) H Q := by
  refine ⟨t, _, rfl, .inl (SqL.of ht), rfl, flat_strs zs, ?_⟩
  simp only [if_true]
  rw [inV_str]; exact q
theorem pure_l_roles (vs : List V) (H : Hp) (Q : VK) (E : XK) (h : sp_l_roles K vs H Q E) : t_l_roles K { nx := fun _ H' => Q .non H', rt := Q } (startN 6 vs) H := by
  obtain ⟨t, ds, rfl, ⟨ws, ht, hds⟩, hl, h2, q⟩ := h
  show t_l_roles K _ [some (.ref t), none, none, none, none, none] H
  unfold t_l_roles
  have hz := sizeLine_eq
  walk_at "rd"
  refine ⟨Nat.zero_le _, fun on hon => ?_⟩
  generalize hG : upd H on _ = H1
  obtain ⟨k1, e1⟩ := gen_new hon hG
  clear hG
  refine ⟨Nat.zero_le _, fun nn hnn => ?_⟩
  generalize hG : upd H1 nn _ = H2
  obtain ⟨k2, e2⟩ := gen_new hnn hG
  clear hG
  walk_at "rd"
  have k02 : Kp H H2 := fun b o e => k2 _ _ (k1 _ _ e)
  have onnn : on ≠ nn := ne_of_none e1 hnn
  have nnH : H nn = none := Kp.free k1 hnn
  refine ⟨⟨_, Tk.kp k02 _ _ ht⟩, ?_⟩
  refine fb_tup (xs := ws) (fun i σ H3 => ∃ (r : List Str × List Str) (x y z : Option V), Kp H H3 ∧ H3 on = some (.lst (r.1.map V.str)) ∧ H3 nn = some (.lst (r.2.map V.str)) ∧ roles (ds.drop i) r = roles ds ([], []) ∧ r.1.length + r.2.length ≤ 2 * i ∧ i ≤ ds.length ∧ σ = [some (.ref t), some (.ref on), some (.ref nn), x, y, z]) ?_ ?_ ?_ ?_
  · exact ⟨([], []), _, _, _, k02, k2 _ _ e1, e2, rfl, Nat.le_refl _, Nat.zero_le _, rfl⟩
  · rintro i σ H3 _ ⟨r, x, y, z, k3, _⟩
    exact Tk.kp k3 _ _ ht
  · rintro i v σ H3 hx ⟨r, x, y, z, k3, ho3, hn3, heq, hrl, hi, rfl⟩
    obtain ⟨p, d, rfl, hd, hda⟩ := hds.at hx
    rw [drop_at hd] at heq
    have hi2 := (List.getElem?_eq_some_iff.mp hd).1
    have hdn := h2 d (List.mem_of_getElem? hd)
    have hp3 : SqT K H3 p (.str d.word :: d.names.map V.str) := Tk.kp k3 _ _ hda
    unfold t_l_roles_b2
    walk_at "rd"
    rw [o_dget2]
    walk_at "rd"
    intro dn hdnn
    generalize hG : upd H3 dn _ = H4
    obtain ⟨k4, e4⟩ := gen_new hdnn hG
    clear hG
    refine ⟨e4, [((Sum.inr ("wrap" : Str) : Key), V.int 2), ((Sum.inr ("put" : Str) : Key), V.int 1)], rfl, by show 2 ≤ 15; decide, ?_⟩
    generalize hG : upd H4 dn _ = H5
    obtain ⟨k5, e5⟩ := gen_chg hG
    clear hG
    have k35 : Kp H3 H5 := fun b o e => k5 _ _ (k4 _ _ e) (ne_of_none e hdnn)
    walk_at "rd"
    refine ⟨.inl ⟨_, .inl e5⟩, p, _, 0, _, rfl, rfl, Tk.kp k35 _ _ hp3, atI_nat (j := 0) rfl, ?_⟩
    refine ⟨_, DGet.k (k := (Sum.inr d.word : Key)) e5, ?_⟩
    rw [made_get]
    rw [o_iRng2]
    walk_at "rd"
    refine ⟨p, _, rfl, .inr (Tk.kp k35 _ _ hp3), 1, _, rfl, ⟨by decide, by decide, by simp only [List.length_cons, List.length_map]; omega, by simp only [List.length_cons, List.length_map]; omega⟩, ?_⟩
    have hn : (((V.str d.word :: d.names.map V.str).length : Int) - 1).toNat = d.names.length := by simp only [List.length_cons, List.length_map]; omega
    rw [hn]
    refine fb_range (fun j σ H6 => ∃ (r' : List Str × List Str) (z : Option V), Kp H H6 ∧ H6 on = some (.lst (r'.1.map V.str)) ∧ H6 nn = some (.lst (r'.2.map V.str)) ∧ roleNames (madeOf d.word) (1 + j) (d.names.drop j) r' = roleNames (madeOf d.word) 1 d.names r ∧ r'.1.length + r'.2.length ≤ 2 * i + j ∧
      σ = [some (.ref t), some (.ref on), some (.ref nn), some (.ref p), some (.int (madeOf d.word : Nat)), z]) ?_ ?_ ?_
    · exact ⟨r, _, fun b o e => k35 _ _ (k3 _ _ e), k35 _ _ ho3, k35 _ _ hn3, rfl, by omega, rfl⟩
    · rintro j σ H6 hj ⟨r', z, k6, ho6, hn6, heq6, hl6, rfl⟩
      have hnj : d.names[j]? = some d.names[j] := List.getElem?_eq_getElem hj
      generalize hne : d.names[j] = n at hnj
      rw [drop_at hnj] at heq6
      have hp6 : SqT K H6 p (.str d.word :: d.names.map V.str) := Tk.kp k6 _ _ hda
      have hat : atI (V.str d.word :: d.names.map V.str) (1 + (j : Int)) = some (.str n) := by
        rw [show (1 + (j : Int)) = ((j + 1 : Nat) : Int) by omega]
        exact atI_nat (by rw [List.getElem?_cons_succ, List.getElem?_map, hnj]; rfl)
      unfold t_l_roles_b1
      walk_at "rd"
      refine ⟨p, _, _, _, rfl, rfl, hp6, hat, on, nn, _, _, rfl, rfl, ho6, hn6, by rw [List.length_map, List.length_map]; omega, fun q7 hq7 => ?_⟩
      generalize hG : upd H6 q7 _ = H7
      obtain ⟨k7, e7⟩ := gen_new hq7 hG
      clear hG
      rw [← List.map_append] at e7
      refine o_notinL e7 ?_
      walk_at "rd"
      have k07 : Kp H H7 := fun b o e => k7 _ _ (k6 _ _ e)
      have ho7 := k7 _ _ ho6
      have hn7 := k7 _ _ hn6
      have hp7 := Tk.kp k7 _ _ hp6
      have step : roleNames (madeOf d.word) (1 + j) (n :: d.names.drop (j + 1)) r' = roleNames (madeOf d.word) (1 + (j + 1)) (d.names.drop (j + 1)) (if n ∈ r'.1 ++ r'.2 then r' else if 1 + j = madeOf d.word then (r'.1, r'.2 ++ [n]) else (r'.1 ++ [n], r'.2)) := rfl
      rw [step] at heq6
      refine ite2 (fun hc => ?_) fun hc => ?_
      · have hc2 : n ∉ r'.1 ++ r'.2 := by simpa using hc
        rw [if_neg hc2] at heq6
        refine ⟨rfl, ite2 (fun hm => ?_) fun hm => ?_⟩
        · have hm2 : 1 + j = madeOf d.word := by
            have := V.int.inj (of_decide_eq_true hm)
            omega
          rw [if_pos hm2] at heq6
          refine ⟨.inl ⟨rfl, _, SqL.of hn7⟩, p, _, _, _, rfl, rfl, hp7, hat, nn, _, _, rfl, rfl, hn7, by rw [List.length_map]; omega, ?_⟩
          generalize hG : upd H7 nn _ = H8
          obtain ⟨k8, e8⟩ := gen_chg hG
          clear hG
          exact ⟨(r'.1, r'.2 ++ [n]), _, fun b o e => k8 _ _ (k07 _ _ e) (ne_of_none e nnH), k8 _ _ ho7 onnn, by rw [e8]; simp, heq6, by simp only [List.length_append, List.length_cons, List.length_nil]; omega, rfl⟩
        · have hm2 : ¬ 1 + j = madeOf d.word := fun e => hm (decide_eq_true (by congr 1; omega))
          rw [if_neg hm2] at heq6
          refine ⟨.inl ⟨rfl, _, SqL.of ho7⟩, p, _, _, _, rfl, rfl, hp7, hat, on, _, _, rfl, rfl, ho7, by rw [List.length_map]; omega, ?_⟩
          generalize hG : upd H7 on _ = H8
          obtain ⟨k8, e8⟩ := gen_chg hG
          clear hG
          exact ⟨(r'.1 ++ [n], r'.2), _, fun b o e => k8 _ _ (k07 _ _ e) (ne_of_none e hon), by rw [e8]; simp, k8 _ _ hn7 onnn.symm, heq6, by simp only [List.length_append, List.length_cons, List.length_nil]; omega, rfl⟩
      · have hc2 : n ∈ r'.1 ++ r'.2 := by
          cases hdec : decide (n ∈ r'.1 ++ r'.2) with
          | true => exact of_decide_eq_true hdec
          | false => rw [hdec] at hc; exact absurd rfl hc
        rw [if_pos hc2] at heq6
        exact ⟨r', _, k07, ho7, hn7, heq6, by omega, rfl⟩
    · rintro σ H6 ⟨r', z, k6, ho6, hn6, heq6, hl6, rfl⟩
      rw [List.drop_length] at heq6
      have e : r' = roleNames (madeOf d.word) 1 d.names r := heq6
      exact ⟨r', _, _, _, k6, ho6, hn6, by rw [e]; exact heq, by omega, by omega, rfl⟩
  · rintro σ H3 ⟨r, x, y, z, k3, ho3, hn3, heq, hrl, hi, rfl⟩
    rw [hds.len] at heq hrl
    rw [List.drop_length] at heq
    have e : r = roles ds ([], []) := heq
    walk_at "rd"
    refine ⟨on, _, rfl, SqL.of ho3, by omega, fun ys p4 a4 b4 hp4 => ?_⟩
    generalize hG : upd H3 p4 _ = H4
    obtain ⟨k4, e4⟩ := gen_new hp4 hG
    clear hG
    refine ⟨p4, _, rfl, .inl ⟨SqL.of e4, fun p5 hp5 => ?_⟩⟩
    generalize hG : upd H4 p5 _ = H5
    obtain ⟨k5, e5⟩ := gen_new hp5 hG
    clear hG
    have k35 : Kp H3 H5 := fun b o e => k5 _ _ (k4 _ _ e)
    refine ⟨nn, _, rfl, SqL.of (k35 _ _ hn3), by omega, fun zs p6 a6 b6 hp6 => ?_⟩
    generalize hG : upd H5 p6 _ = H6
    obtain ⟨k6, e6⟩ := gen_new hp6 hG
    clear hG
    refine ⟨p6, _, rfl, .inl ⟨SqL.of e6, fun p7 hp7 => ?_⟩⟩
    generalize hG : upd H6 p7 _ = H7
    obtain ⟨k7, e7⟩ := gen_new hp7 hG
    clear hG
    refine ⟨by show 2 ≤ sizeLine; omega, fun p8 hp8 => ?_⟩
    generalize hG : upd H7 p8 _ = H8
    obtain ⟨k8, e8⟩ := gen_new hp8 hG
    clear hG
    rw [e] at a4 a6
    have k58 : Kp H5 H8 := fun b o e => k8 _ _ (k7 _ _ (k6 _ _ e))
    exact q p8 p5 p7 ys zs H8 (fun b o e => k58 _ _ (k35 _ _ (k3 _ _ e))) (SqT.of e8) (SqT.of (k58 _ _ e5)) (SqT.of (k8 _ _ e7)) ⟨a4, b4⟩ ⟨a6, b6⟩
end
end Tw
set_option Elab.async false
set_option linter.all false
set_option maxRecDepth 100000
set_option maxHeartbeats 4000000
/-! scripts as the laws draw them -/
namespace Tw
open PySem PySem.Spec PyProof.Rows L2 TL
local macro_rules | `(tactic| walk_at "rd") => `(tactic| try simp only [o_op, o_un, o_var, o_c, o_cb, o_call, o_cons, o_nil, o_tup, o_lst, o_I0, o_I, o_int1, o_intb, o_abs, o_test, o_b, o_not, o_and, o_or, o_andV, o_orV, o_notV, o_ifE, o_isN, o_notN, o_eq, o_ne, o_seq, o_next, o_asg, o_name, o_sub, o_par, o_par3, o_drop, o_ret, o_retN, o_ifS, o_sl, o_noPart, o_part, o_bm, o_bm0, o_m0, o_m1, o_dget, o_dput, o_din, o_dnotin, o_listKeys, e_bl, e_int, e_str, e_some, e_two, e_three, o_for, o_lc, o_iList, o_iTup, o_iRng1, e_int1, e_ref, o_yes, o_wipe0, o_wipe1, o_disp, o_dnew, o_pairs0, o_pairs1, o_lock, o_keysM, o_gtup, o_gcons, o_gnil, o_rU, o_tru, o_revT, o_enumT, o_from, true_and, if_pos, List.getElem?_cons_zero, List.getElem?_cons_succ, List.set_cons_zero, List.set_cons_succ, List.append_nil])
theorem wrap_in : ("wrap" : Str) ∈ words := by decide +kernel
theorem put_in : ("put" : Str) ∈ words := by decide +kernel
theorem wrap_no : ("wrap" : Str) ∉ words1 := by decide +kernel
theorem put_no : ("put" : Str) ∉ words1 := by decide +kernel
/-- a script by the names zs -/
structure Script (zs : List Str) (ds : List Deed) : Prop where
  ok : ∀ d ∈ ds, d.Ok zs
  old : (roles ds ([], [])).1.length ≤ 4
  new : (roles ds ([], [])).2.length ≤ 3
theorem Deed.Ok.len {d : Deed} {zs : List Str} (h : d.Ok zs) : 1 ≤ d.names.length ∧ d.names.length ≤ 2 := by
  have := h.many
  split at this <;> omega
def sp_l_right_script (K : PySem.W.Frag) : Sp := fun vs H Q _ => ∃ (a ol nl : Addr) (os ns : List Str) (most : Int), vs = [.ref a, .ref ol, .ref nl, .int most] ∧ DeckAt H a ∧ H ol = some (.lst (os.map V.str)) ∧ H nl = some (.lst (ns.map V.str)) ∧ ol ≠ a ∧ nl ≠ a ∧ os ++ ns ≠ [] ∧ os.length ≤ 300 ∧ ns.length ≤ 300 ∧ (∀ z ∈ os ++ ns, IsName z) ∧ 0 ≤ most ∧ most ≤ 28 ∧
  ∀ (p : Addr) (ds : List Deed) (H' : Hp), Dk a H H' → DeedsAt K H' p ds → Script (os ++ ns) ds → (ds.length : Int) ≤ most → Q (.ref p) H'
def t_l_right_script_r1 (K : PySem.W.Frag) : TS :=
  (tSeq (tAsg (tCall (sp_l_roles K) [] E0 (tCons (tOp (rCatA K) (tVar 4) (tTup (tCons (tVar 7) tNil))) tNil)) (gName 9))
  (tIfS (tAnd (tTest (tOp (rI0 fun i j => .bl (decide (i < j))) (tCB (rLenSeq K) (tCons (tOp (rIxT K) (tVar 9) (tC (.int 0))) tNil)) (tC (.int 5)))) (tTest (tOp (rI0 fun i j => .bl (decide (i < j))) (tCB (rLenSeq K) (tCons (tOp (rIxT K) (tVar 9) (tC (.int 1))) tNil)) (tC (.int 4))))) (tAsg (tOp (rCatA K) (tVar 4) (tTup (tCons (tVar 7) tNil))) (gName 4)) tNext))
def t_l_right_script_b1 (K : PySem.W.Frag) : TS :=
  (tSeq (tAsg (tCall (sp_l_some_deed K) [] E0 (tCons (tVar 0) (tCons (tLc (iRng1 (tCons (tC (.int 3)) tNil)) (gName 10) tYes (tCall (sp_l_pick K) [] E0 (tCons (tVar 0) (tCons (tVar 5) tNil))) [10]) tNil))) (gName 7))
  (C8.tCut (tIfS (tAnd (tTest (tOp (rIn K true) (tOp (rIxT K) (tVar 7) (tC (.int 0))) (tTup (tCons (tC (.str "wrap")) (tCons (tC (.str "put")) tNil))))) (tAnd (tTest (tOp rEq (tCall sp_l_draw [] E0 (tCons (tVar 0) (tCons (tC (.int 6)) tNil))) (tC (.int 0)))) (tTest (tOp (rNeB K) (tVar 2) (tLst tNil))))) (tSeq (tAsg (tCall (sp_l_pick K) [] E0 (tCons (tVar 0) (tCons (tVar 2) tNil))) (gName 8))
  (tAsg (tCall (sp_l_pick K) [] E0 (tCons (tVar 0) (tCons (tLst (tCons (tTup (tCons (tC (.str "wrap")) (tCons (tOp (rIxT K) (tVar 7) (tC (.int 1))) (tCons (tVar 8) tNil)))) (tCons (tTup (tCons (tC (.str "put")) (tCons (tVar 8) (tCons (tOp (rIxT K) (tVar 7) (tC (.int 1))) tNil)))) tNil))) tNil))) (gName 7))) tNext)
  (t_l_right_script_r1 K)))
def t_l_right_script (K : PySem.W.Frag) : TS :=
  (tSeq (tAsg (tTup tNil) (gName 4))
  (tSeq (tAsg (tOp rCat (tVar 1) (tVar 2)) (gName 5))
  (tSeq (tFor (iRng1 (tCons (tCall sp_l_draw [] E0 (tCons (tVar 0) (tCons (tOp (rI0 fun i j => .int (i + j)) (tVar 3) (tC (.int 1))) tNil))) tNil)) (gName 6)
  (t_l_right_script_b1 K))
  (tRet (tVar 4)))))
section
variable {K : PySem.W.Frag}
theorem len_l_right_script (vs : List V) (H : Hp) (Q : VK) (E : XK) (h : sp_l_right_script K vs H Q E) : vs.length = 4 := by
  obtain ⟨_, _, _, _, _, _, rfl, _⟩ := h; rfl
theorem Ds.snoc {H : Hp} {vs : List V} {ds : List Deed} {p : Addr} {d : Deed} (h : Ds K H vs ds) (hp : DeedAt K H p d) : Ds K H (vs ++ [.ref p]) (ds ++ [d]) := by
  induction h with
  | nil => exact .cons hp .nil
  | cons a _ ih => exact .cons a ih
theorem o_neStrNil {a b : Addr} {zs : List Str} {H : Hp} {Q : VK} (ha : H a = some (.lst (zs.map V.str))) (hb : H b = some (.lst [])) (hn : ∀ z ∈ zs, IsName z) (q : Q (.bl (!zs.isEmpty)) H) : rNeB K (.ref a) (.ref b) H Q := by
  refine ⟨.list (zs.map PyData.str), .list [], .lst (SqL.of ha) (strs_dp zs), .lst (SqL.of hb) .nil, ?_, by simp [PyData.canLay0, PyData.canLayAll0], ?_, ?_⟩
  · rw [PyData.canLay0]; exact strs_lay zs fun z hz => strOk_of (hn z hz)
  · simp only [PyData.depth, PyData.depthAll]; omega
  · have e : PyData.eqv (.list (zs.map PyData.str)) (.list []) = zs.isEmpty := by
      cases zs with
      | nil => simp [PyData.eqv, PyData.eqvAll]
      | cons _ _ => simp [PyData.eqv, PyData.eqvAll]
    rw [e]; exact q
theorem o_notinT {H : Hp} {Q : VK} {t : Addr} {n : Str} {zs : List Str} (ht : SqT K H t (zs.map V.str)) (q : Q (.bl (!decide (n ∈ zs))) H) : rIn K true (.str n) (.ref t) H Q := by
  refine ⟨t, _, rfl, .inr ht, rfl, flat_strs zs, ?_⟩
  simp only [if_true]
  rw [inV_str]; exact q
/-- what the loop keeps -/
def ScInv (K : PySem.W.Frag) (H : Hp) (a ol nl nh : Addr) (os ns : List Str) (most : Int) (j : Nat) (σ : L2.St) (H3 : Hp) : Prop :=
  ∃ (p : Addr) (ds : List Deed) (x6 x7 x8 x9 x10 : Option V), Dk a H H3 ∧ nh ≠ a ∧ H3 nh = some (.lst ((os ++ ns).map V.str)) ∧ DeedsAt K H3 p ds ∧ Script (os ++ ns) ds ∧ ds.length ≤ j ∧ σ = [some (.ref a), some (.ref ol), some (.ref nl), some (.int most), some (.ref p), some (.ref nh), x6, x7, x8, x9, x10]
theorem right_rest {H H3 : Hp} {a ol nl nh p q7 : Addr} {os ns : List Str} {most : Int} {j : Nat} {ds : List Deed} {d : Deed} {x6 x8 x9 x10 : Option V} {D : Ends} (k3 : Dk a H H3) (na : nh ≠ a) (hnh : H3 nh = some (.lst ((os ++ ns).map V.str))) (hds : DeedsAt K H3 p ds) (sc : Script (os ++ ns) ds) (hj : ds.length ≤ j) (hj2 : j < 28)
    (hd : DeedAt K H3 q7 d) (hok : d.Ok (os ++ ns)) (hD : ∀ σ H, ScInv K H a ol nl nh os ns most (j + 1) σ H → True) (next : ∀ σ H4, (∃ (p : Addr) (ds : List Deed) (x6 x7 x8 x9 x10 : Option V), Dk a H H4 ∧ nh ≠ a ∧ H4 nh = some (.lst ((os ++ ns).map V.str)) ∧ DeedsAt K H4 p ds ∧ Script (os ++ ns) ds ∧ ds.length ≤ j + 1 ∧ σ = [some (.ref a), some (.ref ol), some (.ref nl), some (.int most), some (.ref p), some (.ref nh), x6, x7, x8, x9, x10]) → D.nx σ H4) :
    t_l_right_script_r1 K D [some (.ref a), some (.ref ol), some (.ref nl), some (.int most), some (.ref p), some (.ref nh), x6, some (.ref q7), x8, x9, x10] H3 := by
  have hz := sizeLine_eq
  unfold t_l_right_script_r1
  walk_at "rd"
  refine ⟨by show 1 ≤ sizeLine; omega, fun q1 hq1 => ?_⟩
  generalize hG : upd H3 q1 _ = H4
  obtain ⟨k4, e4⟩ := gen_new hq1 hG
  clear hG
  obtain ⟨ws, s1, g1⟩ := hds
  refine o_cat (Tk.kp k4 _ _ s1) (SqT.of e4) (by rw [g1.len]; simp only [List.length_cons, List.length_nil]; omega) fun q2 H5 k5 h5 => ?_
  have k35 : Kp H3 H5 := fun b o e => k5 _ _ (k4 _ _ e)
  have all : ∀ e ∈ ds ++ [d], e.Ok (os ++ ns) := fun e he => by
    rcases List.mem_append.mp he with h | h
    · exact sc.ok e h
    · rw [List.mem_singleton.mp h]; exact hok
  refine ⟨q2, ds ++ [d], rfl, ⟨_, h5, (g1.mono (Tk.kp k35)).snoc (Tk.kp k35 _ _ hd)⟩, by rw [List.length_append, List.length_singleton]; omega, fun e he => (all e he).len.2, fun r ro rn ys zs H6 k6 hr hro hrn hy hzz => ?_⟩
  walk_at "rd"
  have k36 : Kp H3 H6 := fun b o e => k6 _ _ (k35 _ _ e)
  obtain ⟨x0, y0, z0, hd0⟩ := k3.deck
  have same : D.nx [some (.ref a), some (.ref ol), some (.ref nl), some (.int most), some (.ref p), some (.ref nh), x6, some (.ref q7), x8, some (.ref r), x10] H6 :=
    next _ _ ⟨p, ds, _, _, _, _, _, ⟨fun b o e nb => k36 _ _ (k3.keep _ _ e nb), x0, y0, z0, k36 _ _ hd0⟩, na, k36 _ _ hnh, ⟨ws, Tk.kp k36 _ _ s1, g1.mono (Tk.kp k36)⟩, sc, by omega, rfl⟩
  refine ⟨r, _, 0, _, rfl, rfl, hr, atI_nat (j := 0) rfl, ro, _, rfl, .inr hro, ?_⟩
  walk_at "rd"
  rw [List.length_map, hy.1.length_eq]
  refine ite2 (fun h5o => ?_) fun _ => ?_
  · have h5o : ((roles (ds ++ [d]) ([], [])).1.length : Int) < 5 := of_decide_eq_true h5o
    refine ⟨r, _, 1, _, rfl, rfl, hr, atI_nat (j := 1) rfl, rn, _, rfl, .inr hrn, ?_⟩
    walk_at "rd"
    rw [List.length_map, hzz.1.length_eq]
    refine ite2 (fun h4n => ?_) fun _ => same
    have h4n : ((roles (ds ++ [d]) ([], [])).2.length : Int) < 4 := of_decide_eq_true h4n
    refine ⟨by show 1 ≤ sizeLine; omega, fun q8 hq8 => ?_⟩
    generalize hG : upd H6 q8 _ = H7
    obtain ⟨k7, e7⟩ := gen_new hq8 hG
    clear hG
    refine o_cat (Tk.kp k7 _ _ (Tk.kp k36 _ _ s1)) (SqT.of e7) (by rw [g1.len]; simp only [List.length_cons, List.length_nil]; omega) fun q9 H8 k8 h8 => ?_
    have k38 : Kp H3 H8 := fun b o e => k8 _ _ (k7 _ _ (k36 _ _ e))
    exact next _ _ ⟨q9, ds ++ [d], _, _, _, _, _, ⟨fun b o e nb => k38 _ _ (k3.keep _ _ e nb), x0, y0, z0, k38 _ _ hd0⟩, na, k38 _ _ hnh, ⟨_, h8, (g1.mono (Tk.kp k38)).snoc (Tk.kp k38 _ _ hd)⟩, ⟨all, by omega, by omega⟩, by rw [List.length_append, List.length_singleton]; omega, rfl⟩
  · rw [if_neg (by decide)]; exact same
/-- [pick(deck, names) for _ in range(3)] -/
theorem lc_three {H : Hp} {a nh : Addr} {zs : List Str} {s1 s2 s3 s4 s6 s7 s8 s9 s10 : Option V} {Q : VK} (hd : DeckAt H a) (hnh : H nh = some (.lst (zs.map V.str))) (na : nh ≠ a) (hne : zs ≠ []) (hsz : zs.length ≤ 1000)
    (q : ∀ L (ys : List Str) H', Dk a H H' → H L = none → H' L = some (.lst (ys.map V.str)) → ys.length = 3 → (∀ y ∈ ys, y ∈ zs) → Q (.ref L) H') :
    LcB (Itr 0 3) (gName 10) tYes (tCall (sp_l_pick K) [] E0 (tCons (tVar 0) (tCons (tVar 5) tNil))) [10] [some (.ref a), s1, s2, s3, s4, some (.ref nh), s6, s7, s8, s9, s10] H Q := by
  have hz := sizeLine_eq
  refine lb_walk (n := 3) walk_range (fun L i H1 => Dk a H H1 ∧ H L = none ∧ ∃ ys : List Str, ys.length = i ∧ (∀ y ∈ ys, y ∈ zs) ∧ H1 L = some (.lst (ys.map V.str))) ?_ (fun _ _ _ _ _ => trivial) ?_ ?_
  · intro L hL
    have hLa := deck_ne hd hL
    refine ⟨⟨fun b o e nb => (show Kp H H from fun _ _ h => h).new hL _ _ e, ?_⟩, hL, [], rfl, (fun z hz => by cases hz), by rw [upd_same]; rfl⟩
    obtain ⟨x, y, z, h⟩ := hd
    exact ⟨x, y, z, by rw [upd_ne hLa.symm]; exact h⟩
  · rintro L i x H1 H2 hi ⟨k1, hL, ys, hl, hys, h1⟩ ⟨rfl, rfl⟩
    have hLa := deck_ne hd hL
    show gName 10 _ _ _ _
    walk_at "rd"
    refine o_pick k1.deck (k1.keep _ _ hnh na) na hne (by omega) fun z H3 hz k3 => ?_
    have hL3 := k3.keep _ _ h1 hLa
    refine ⟨_, hL3, by rw [List.length_map]; omega, ⟨fun b o e nb => ?_, ?_⟩, hL, ys ++ [z], by rw [List.length_append, hl]; rfl, fun y hy => ?_, by rw [upd_same]; simp⟩
    · rw [upd_ne (ne_of_none e hL)]; exact k3.keep _ _ (k1.keep _ _ e nb) nb
    · obtain ⟨x, y, w, h⟩ := k3.deck
      exact ⟨x, y, w, by rw [upd_ne hLa.symm]; exact h⟩
    · rcases List.mem_append.mp hy with h | h
      · exact hys y h
      · rw [List.mem_singleton.mp h]; exact hz
  · rintro L H1 hL ⟨k1, _, ys, hl, hys, h1⟩
    exact q L ys H1 k1 hL h1 hl hys
theorem right_b1 {H H3 : Hp} {a ol nl nh p : Addr} {os ns : List Str} {most : Int} {j : Nat} {ds : List Deed} {x6 x7 x8 x9 x10 : Option V} {D : Ends} (k3 : Dk a H H3) (na : nh ≠ a) (hnh : H3 nh = some (.lst ((os ++ ns).map V.str))) (hds : DeedsAt K H3 p ds) (sc : Script (os ++ ns) ds) (hj : ds.length ≤ j) (hj2 : j < 28)
    (hnl : H nl = some (.lst (ns.map V.str))) (nla : nl ≠ a) (hne : os ++ ns ≠ []) (hlo : os.length ≤ 300) (hln : ns.length ≤ 300) (hnm : ∀ z ∈ os ++ ns, IsName z)
    (next : ∀ σ H4, ScInv K H a ol nl nh os ns most (j + 1) σ H4 → D.nx σ H4) :
    t_l_right_script_b1 K D [some (.ref a), some (.ref ol), some (.ref nl), some (.int most), some (.ref p), some (.ref nh), x6, x7, x8, x9, x10] H3 := by
  have hz := sizeLine_eq
  unfold t_l_right_script_b1
  walk_at "rd"
  refine ⟨by decide, by decide, ?_⟩
  refine lc_three k3.deck hnh na hne (by rw [List.length_append]; omega) fun L ys H4 k4 hL h4 hl4 hys => ?_
  have hLa := deck_ne k3.deck hL
  refine ⟨a, L, ys, rfl, k4.deck, h4, hLa, (fun e => by rw [e] at hl4; cases hl4), by omega, fun q7 d H5 k5 hd hok => ?_⟩
  have hok2 : d.Ok (os ++ ns) := ⟨hok.word, hok.many, fun n hn => hys n (hok.nms n hn)⟩
  have k35 := k4.trans k5
  have k05 := k3.trans k35
  have t35 : Tk K H3 H5 := k35.tk k3.deck
  walk_at "rd"
  obtain ⟨ws, s1, g1⟩ := hds
  have hl := hok2.len
  obtain ⟨n0, nr, hn0⟩ : ∃ n0 nr, d.names = n0 :: nr := by
    cases e : d.names with
    | nil => rw [e] at hl; simp at hl
    | cons n r => exact ⟨n, r, rfl⟩
  have hd' : SqT K H5 q7 (.str d.word :: (n0 :: nr).map V.str) := by rw [← hn0]; exact hd
  have hn0z : n0 ∈ os ++ ns := hok2.nms n0 (by rw [hn0]; exact List.mem_cons_self ..)
  have mid : ∀ (q : Addr) (e : Deed) (H6 : Hp) (w8 : Option V), Dk a H5 H6 → DeedAt K H6 q e → e.Ok (os ++ ns) → ∃ (q7 : Addr) (d : Deed) (y8 : Option V), Dk a H H6 ∧ H6 nh = some (.lst ((os ++ ns).map V.str)) ∧ DeedsAt K H6 p ds ∧ DeedAt K H6 q7 d ∧ d.Ok (os ++ ns) ∧
      [some (V.ref a), some (V.ref ol), some (V.ref nl), some (V.int most), some (V.ref p), some (V.ref nh), x6, some (V.ref q), w8, x9, x10] = [some (.ref a), some (.ref ol), some (.ref nl), some (.int most), some (.ref p), some (.ref nh), x6, some (.ref q7), y8, x9, x10]   := fun q e H6 w8 k6 he ho =>
    ⟨q, e, w8, k05.trans k6, k6.keep _ _ (k35.keep _ _ hnh na) na, ⟨ws, (k6.tk k5.deck) _ _ (t35 _ _ s1), (g1.mono t35).mono (k6.tk k5.deck)⟩, he, ho, rfl⟩
  refine ⟨fun σ H6 => ∃ (q7 : Addr) (d : Deed) (y8 : Option V), Dk a H H6 ∧ H6 nh = some (.lst ((os ++ ns).map V.str)) ∧ DeedsAt K H6 p ds ∧ DeedAt K H6 q7 d ∧ d.Ok (os ++ ns) ∧ σ = [some (.ref a), some (.ref ol), some (.ref nl), some (.int most), some (.ref p), some (.ref nh), x6, some (.ref q7), y8, x9, x10], ?_, ?_⟩
  · walk_at "rd"
    refine ⟨q7, _, 0, _, rfl, rfl, hd', atI_nat (j := 0) rfl, by show 2 ≤ sizeLine; omega, fun q6 hq6 => ?_⟩
    have hq6a := deck_ne k5.deck hq6
    generalize hG : upd H5 q6 _ = H6
    obtain ⟨k6, e6⟩ := gen_new hq6 hG
    clear hG
    obtain ⟨x0, y0, z0, hd5⟩ := k5.deck
    have d56 : Dk a H5 H6 := ⟨fun b o e _ => k6 _ _ e, x0, y0, z0, k6 _ _ hd5⟩
    have hw6 : SqT K H6 q6 ((["wrap", "put"] : List Str).map V.str) := SqT.of e6
    refine o_notinT hw6 ?_
    walk_at "rd"
    refine ite2 (fun _ => ?_) fun _ => ?_
    · refine o_draw d56.deck (by decide) (by decide) fun c H7 c0 c1 k7 => ?_
      have d57 := d56.trans k7
      refine ⟨rfl, ite2 (fun _ => ?_) fun _ => ?_⟩
      · refine ⟨Nat.zero_le _, fun q8 hq8 => ?_⟩
        have hq8a := deck_ne d57.deck hq8
        generalize hG : upd H7 q8 _ = H8
        obtain ⟨k8, e8⟩ := gen_new hq8 hG
        clear hG
        obtain ⟨x1, y1, z1, hd7⟩ := d57.deck
        have d58 : Dk a H5 H8 := ⟨fun b o e nb => k8 _ _ (d57.keep _ _ e nb), x1, y1, z1, k8 _ _ hd7⟩
        have hnl8 := d58.keep _ _ (k05.keep _ _ hnl nla) nla
        refine o_neStrNil hnl8 e8 (fun z hz => hnm z (List.mem_append_right _ hz)) ?_
        walk_at "rd"
        refine ite2 (fun hne2 => ?_) fun _ => ?_
        · have hns : ns ≠ [] := fun e => by rw [e] at hne2; cases hne2
          refine o_pick d58.deck hnl8 nla hns (by omega) fun m H9 hm k9 => ?_
          have d59 := d58.trans k9
          have t59 : Tk K H5 H9 := d59.tk k5.deck
          have hmz : m ∈ os ++ ns := List.mem_append_right _ hm
          have hat : atI (V.str d.word :: (n0 :: nr).map V.str) 1 = some (.str n0) := atI_nat (j := 1) rfl
          walk_at "rd"
          refine ⟨q7, _, 1, _, rfl, rfl, t59 _ _ hd', hat, by show 3 ≤ sizeLine; omega, fun a1 ha1 => ?_⟩
          generalize hG : upd H9 a1 _ = H10
          obtain ⟨k10, e10⟩ := gen_new ha1 hG
          clear hG
          refine ⟨q7, _, 1, _, rfl, rfl, Tk.kp k10 _ _ (t59 _ _ hd'), hat, by show 3 ≤ sizeLine; omega, fun a2 ha2 => ?_⟩
          generalize hG : upd H10 a2 _ = H11
          obtain ⟨k11, e11⟩ := gen_new ha2 hG
          clear hG
          refine ⟨by show 2 ≤ sizeLine; omega, fun a3 ha3 => ?_⟩
          have k911 : Kp H9 H11 := fun b o e => k11 _ _ (k10 _ _ e)
          obtain ⟨x2, y2, z2, hd9⟩ := d59.deck
          have ha3a : a3 ≠ a := deck_ne ⟨x2, y2, z2, k911 _ _ hd9⟩ ha3
          generalize hG : upd H11 a3 _ = H12
          obtain ⟨k12, e12⟩ := gen_new ha3 hG
          clear hG
          have k912 : Kp H9 H12 := fun b o e => k12 _ _ (k911 _ _ e)
          have d512 : Dk a H5 H12 := ⟨fun b o e nb => k912 _ _ (d59.keep _ _ e nb), x2, y2, z2, k912 _ _ hd9⟩
          refine ⟨a, a3, _, rfl, d512.deck, SqL.of e12, ha3a, (fun e => by cases e), by show 2 ≤ 1000000; decide, fun x H13 hx k13 => ?_⟩
          have d513 := d512.trans k13
          rcases List.mem_cons.mp hx with e | hx
          · subst e
            refine mid a1 ⟨"wrap", [n0, m]⟩ H13 (some (.str m)) d513 (k13.tk d512.deck _ _ (SqT.of (k12 _ _ (k11 _ _ e10)))) ⟨wrap_in, by show 2 = if ("wrap" : Str) ∈ words1 then 1 else 2; rw [if_neg wrap_no], fun n hn => ?_⟩
            rcases List.mem_cons.mp hn with e | hn
            · rw [e]; exact hn0z
            · rw [List.mem_singleton.mp hn]; exact hmz
          · obtain rfl := List.mem_singleton.mp hx
            refine mid a2 ⟨"put", [m, n0]⟩ H13 (some (.str m)) d513 (k13.tk d512.deck _ _ (SqT.of (k12 _ _ e11))) ⟨put_in, by show 2 = if ("put" : Str) ∈ words1 then 1 else 2; rw [if_neg put_no], fun n hn => ?_⟩
            rcases List.mem_cons.mp hn with e | hn
            · rw [e]; exact hmz
            · rw [List.mem_singleton.mp hn]; exact hn0z
        · exact mid q7 d H8 x8 d58 (d58.tk k5.deck _ _ hd) hok2
      · rw [if_neg (by decide)]
        exact mid q7 d H7 x8 d57 (d57.tk k5.deck _ _ hd) hok2
    · rw [if_neg (by decide)]
      exact mid q7 d H6 x8 d56 (d56.tk k5.deck _ _ hd) hok2
  · rintro σ H6 ⟨q, e, y8, k6, hn6, hds6, he, ho, rfl⟩
    exact right_rest k6 na hn6 hds6 sc hj hj2 he ho (fun _ _ _ => trivial) fun σ H4 h => next σ H4 h
theorem pure_l_right_script (vs : List V) (H : Hp) (Q : VK) (E : XK) (h : sp_l_right_script K vs H Q E) : t_l_right_script K { nx := fun _ H' => Q .non H', rt := Q } (startN 11 vs) H := by
  obtain ⟨a, ol, nl, os, ns, most, rfl, hd, hol, hnl, ola, nla, hne, hlo, hln, hnm, m0, m1, q⟩ := h
  show t_l_right_script K _ [some (.ref a), some (.ref ol), some (.ref nl), some (.int most), none, none, none, none, none, none, none] H
  unfold t_l_right_script
  have hz := sizeLine_eq
  walk_at "rd"
  refine ⟨Nat.zero_le _, fun p0 hp0 => ?_⟩
  generalize hG : upd H p0 _ = H1
  obtain ⟨k1, e1⟩ := gen_new hp0 hG
  clear hG
  walk_at "rd"
  refine ⟨ol, nl, _, _, rfl, rfl, k1 _ _ hol, k1 _ _ hnl, by rw [List.length_map, List.length_map]; omega, fun nh hnh => ?_⟩
  generalize hG : upd H1 nh _ = H2
  obtain ⟨k2, e2⟩ := gen_new hnh hG
  clear hG
  rw [← List.map_append] at e2
  have k02 : Kp H H2 := fun b o e => k2 _ _ (k1 _ _ e)
  obtain ⟨x0, y0, z0, hd0⟩ := hd
  have d02 : Dk a H H2 := ⟨fun b o e _ => k02 _ _ e, x0, y0, z0, k02 _ _ hd0⟩
  have na : nh ≠ a := deck_ne ⟨x0, y0, z0, k1 _ _ hd0⟩ hnh
  walk_at "rd"
  refine o_draw d02.deck (by omega) (by omega) fun c H3 c0 c1 k3 => ?_
  walk_at "rd"
  refine ⟨by omega, by omega, ?_⟩
  have t23 : Tk K H2 H3 := k3.tk d02.deck
  refine fb_range (ScInv K H a ol nl nh os ns most) ?_ ?_ ?_
  · exact ⟨p0, [], _, _, _, _, _, d02.trans k3, na, k3.keep _ _ e2 na, ⟨[], t23 _ _ (SqT.of (k2 _ _ e1)), .nil⟩, ⟨(fun d hd => by cases hd), Nat.zero_le _, Nat.zero_le _⟩, Nat.le_refl _, rfl⟩
  · rintro j σ H4 hj ⟨p, ds, x6, x7, x8, x9, x10, k4, _, hn4, hds, sc, hjl, rfl⟩
    walk_at "rd"
    exact right_b1 k4 na hn4 hds sc hjl (by omega) hnl nla hne hlo hln hnm fun σ H5 h => h
  · rintro σ H4 ⟨p, ds, x6, x7, x8, x9, x10, k4, _, hn4, hds, sc, hjl, rfl⟩
    walk_at "rd"
    exact q p ds H4 k4 hds sc (by omega)
end
end Tw
set_option Elab.async false
set_option linter.all false
set_option maxRecDepth 100000
set_option maxHeartbeats 4000000
/-! what is sorted is so in one way -/
namespace Tw
open PySem PySem.Spec PyProof.Rows L2 TL
def leS (a b : Str) : Prop := a.cps.toList ≤ b.cps.toList
theorem leS_trans {a b c : Str} (h1 : leS a b) (h2 : leS b c) : leS a c := List.le_trans h1 h2
theorem leS_anti {a b : Str} (h1 : leS a b) (h2 : leS b a) : a = b := str_ext (List.le_antisymm h1 h2)
theorem rising_pw : ∀ (l : List Str) (p : Str), risingS p l = true → (p :: l).Pairwise leS
  | [], p, _ => List.pairwise_singleton ..
  | x :: r, p, h => by
    have h' : (!ltCps x.cps.toList p.cps.toList && risingS x r) = true := h
    rw [Bool.and_eq_true, ltCps_eq] at h'
    have h1 : leS p x := by
      have := h'.1
      simp only [Bool.not_eq_true', decide_eq_false_iff_not] at this
      exact List.not_lt.mp this
    have h2 := rising_pw r x h'.2
    refine List.pairwise_cons.mpr ⟨fun y hy => ?_, h2⟩
    rcases List.mem_cons.mp hy with e | hy
    · rw [e]; exact h1
    · exact leS_trans h1 (List.rel_of_pairwise_cons h2 hy)
theorem sorted_pw : ∀ {l : List Str}, sortedS l = true → l.Pairwise leS
  | [], _ => List.Pairwise.nil
  | x :: r, h => rising_pw r x h
theorem Asc.unique {xs ys zs : List Str} (h1 : Asc ys xs) (h2 : Asc zs xs) : ys = zs :=
  List.Perm.eq_of_pairwise (le := leS) (fun _ _ _ _ => leS_anti) (sorted_pw h1.2) (sorted_pw h2.2) (h1.1.trans h2.1.symm)
end Tw
set_option Elab.async false
set_option linter.all false
set_option maxRecDepth 100000
set_option maxHeartbeats 4000000
/-! k17, the law's own side: old_names and new_names are asked for, the program's text is not known yet -/
namespace Tw
open PySem PySem.Spec PyProof.Rows L2 TL
local macro_rules | `(tactic| walk_at "rd") => `(tactic| try simp only [o_op, o_un, o_var, o_c, o_cb, o_call, o_cons, o_nil, o_tup, o_lst, o_I0, o_I, o_int1, o_intb, o_abs, o_test, o_b, o_not, o_and, o_or, o_andV, o_orV, o_notV, o_ifE, o_isN, o_notN, o_eq, o_ne, o_seq, o_next, o_asg, o_name, o_sub, o_par, o_par3, o_drop, o_ret, o_retN, o_ifS, o_sl, o_noPart, o_part, o_bm, o_bm0, o_m0, o_m1, o_dget, o_dput, o_din, o_dnotin, o_listKeys, e_bl, e_int, e_str, e_some, e_two, e_three, o_for, o_lc, o_iList, o_iTup, o_iRng1, e_int1, e_ref, o_yes, o_wipe0, o_wipe1, o_disp, o_dnew, o_pairs0, o_pairs1, o_lock, o_keysM, o_gtup, o_gcons, o_gnil, o_rU, o_tru, o_revT, o_enumT, o_from, true_and, if_pos, List.getElem?_cons_zero, List.getElem?_cons_succ, List.set_cons_zero, List.set_cons_succ, List.append_nil])
/-- a script as it may be passed -/
structure ScriptOk (zs : List Str) (ds : List Deed) : Prop where
  sc : Script zs ds
  len : ds.length ≤ 12
  nms : ∀ z ∈ zs, IsName z
def sp_old_names (K : PySem.W.Frag) : Sp := fun vs H Q _ => ∃ (t : Addr) (ds : List Deed), vs = [.ref t] ∧ DeedsAt K H t ds ∧ (∀ d ∈ ds, ∃ zs, d.Ok zs) ∧ ds.length ≤ 30 ∧ ∀ (p : Addr) (ys : List Str) (H' : Hp), Kp H H' → SqT K H' p (ys.map V.str) → Asc ys (roles ds ([], [])).1 → Q (.ref p) H'
def sp_new_names (K : PySem.W.Frag) : Sp := fun vs H Q _ => ∃ (t : Addr) (ds : List Deed), vs = [.ref t] ∧ DeedsAt K H t ds ∧ (∀ d ∈ ds, ∃ zs, d.Ok zs) ∧ ds.length ≤ 30 ∧ ∀ (p : Addr) (ys : List Str) (H' : Hp), Kp H H' → SqT K H' p (ys.map V.str) → Asc ys (roles ds ([], [])).2 → Q (.ref p) H'
def t_law17_r1 (K : PySem.W.Frag) : TS :=
  (tRet (tOp (rEqB K) (tLst (tCons (tCall (sp_old_names K) [] E0 (tCons (tVar 5) tNil)) (tCons (tCall (sp_new_names K) [] E0 (tCons (tVar 5) tNil)) tNil))) (tCB (rListOf K) (tCons (tCall (sp_l_roles K) [] E0 (tCons (tVar 5) tNil)) tNil))))
section
variable {K : PySem.W.Frag}
theorem roleNames_in (made : Nat) : ∀ (ns : List Str) (k : Nat) (r : List Str × List Str) (z : Str), z ∈ (roleNames made k ns r).1 ++ (roleNames made k ns r).2 → z ∈ r.1 ++ r.2 ∨ z ∈ ns
  | [], _, _, _, h => .inl h
  | n :: ns, k, r, z, h => by
    unfold roleNames at h
    rcases roleNames_in made ns (k + 1) _ z h with h | h
    · split at h
      · exact .inl h
      · split at h
        · rw [← List.append_assoc] at h
          rcases List.mem_append.mp h with h | h
          · exact .inl h
          · exact .inr (by rw [List.mem_singleton.mp h]; exact List.mem_cons_self ..)
        · rcases List.mem_append.mp h with h | h
          · rcases List.mem_append.mp h with h | h
            · exact .inl (List.mem_append_left _ h)
            · exact .inr (by rw [List.mem_singleton.mp h]; exact List.mem_cons_self ..)
          · exact .inl (List.mem_append_right _ h)
    · exact .inr (List.mem_cons_of_mem _ h)
theorem roles_in : ∀ (ds : List Deed) (r : List Str × List Str) (z : Str), z ∈ (roles ds r).1 ++ (roles ds r).2 → z ∈ r.1 ++ r.2 ∨ ∃ d ∈ ds, z ∈ d.names
  | [], _, _, h => .inl h
  | d :: ds, r, z, h => by
    unfold roles at h
    rcases roles_in ds _ z h with h | ⟨e, he, hz⟩
    · rcases roleNames_in _ _ _ _ z h with h | h
      · exact .inl h
      · exact .inr ⟨d, List.mem_cons_self .., h⟩
    · exact .inr ⟨e, List.mem_cons_of_mem _ he, hz⟩
theorem ScriptOk.names {zs : List Str} {ds : List Deed} (h : ScriptOk zs ds) : (∀ z ∈ (roles ds ([], [])).1, PyData.strOk z = true) ∧ ∀ z ∈ (roles ds ([], [])).2, PyData.strOk z = true := by
  have key : ∀ z ∈ (roles ds ([], [])).1 ++ (roles ds ([], [])).2, PyData.strOk z = true := fun z hz => by
    rcases roles_in ds _ z hz with h2 | ⟨d, hd, hz⟩
    · cases h2
    · exact strOk_of (h.nms z ((h.sc.ok d hd).nms z hz))
  exact ⟨fun z hz => key z (List.mem_append_left _ hz), fun z hz => key z (List.mem_append_right _ hz)⟩
theorem o_eqTwo {H : Hp} {Q : VK} {a b o1 n1 o2 n2 : Addr} {ys zs : List Str} (h1 : H a = some (.lst [.ref o1, .ref n1])) (h2 : H b = some (.lst [.ref o2, .ref n2])) (a1 : SqT K H o1 (ys.map V.str)) (b1 : SqT K H n1 (zs.map V.str)) (a2 : SqT K H o2 (ys.map V.str)) (b2 : SqT K H n2 (zs.map V.str))
    (hy : ∀ z ∈ ys, PyData.strOk z = true) (hz : ∀ z ∈ zs, PyData.strOk z = true) (q : Q (.bl true) H) : rEqB K (.ref a) (.ref b) H Q := by
  have hl : PyData.canLay0 (.list (gdata [ys, zs])) = true := by
    rw [PyData.canLay0]
    exact gdata_lay [ys, zs] fun g hg z hzg => by
      rcases List.mem_cons.mp hg with e | hg
      · rw [e] at hzg; exact hy z hzg
      · rw [List.mem_singleton.mp hg] at hzg; exact hz z hzg
  have e := SeqAt.eqv_refl _ hl
  have := gdata_depth [ys, zs]
  refine ⟨_, _, .lst (SqL.of h1) (Gs.cons a1 (Gs.cons b1 .nil)).dp, .lst (SqL.of h2) (Gs.cons a2 (Gs.cons b2 .nil)).dp, hl, hl, ?_, by rw [e]; exact q⟩
  simp only [PyData.depth]; omega
theorem law_rest {H : Hp} {x0 x1 x2 x3 x4 x6 x7 : Option V} {t : Addr} {zs : List Str} {ds : List Deed} {D : Ends} (hd : DeedsAt K H t ds) (ok : ScriptOk zs ds) (q : ∀ H', D.rt (.bl true) H') :
    t_law17_r1 K D [x0, x1, x2, x3, x4, some (.ref t), x6, x7] H := by
  have hz := sizeLine_eq
  unfold t_law17_r1
  obtain ⟨ws, s1, g1⟩ := hd
  walk_at "rd"
  refine ⟨t, ds, rfl, ⟨ws, s1, g1⟩, fun d hd => ⟨zs, ok.sc.ok d hd⟩, by have := ok.len; omega, fun p1 y1 H1 k1 h1 a1 => ?_⟩
  refine ⟨t, ds, rfl, ⟨ws, Tk.kp k1 _ _ s1, g1.mono (Tk.kp k1)⟩, fun d hd => ⟨zs, ok.sc.ok d hd⟩, by have := ok.len; omega, fun p2 z1 H2 k2 h2 b1 => ?_⟩
  refine ⟨by show 2 ≤ sizeLine; omega, fun l hl => ?_⟩
  generalize hG : upd H2 l _ = H3
  obtain ⟨k3, e3⟩ := gen_new hl hG
  clear hG
  have k03 : Kp H H3 := fun b o e => k3 _ _ (k2 _ _ (k1 _ _ e))
  refine ⟨t, ds, rfl, ⟨ws, Tk.kp k03 _ _ s1, g1.mono (Tk.kp k03)⟩, by have := ok.len; omega, fun d hd => (ok.sc.ok d hd).len.2, fun r o n y2 z2 H4 k4 hr ho hn a2 b2 => ?_⟩
  obtain rfl := Asc.unique a1 a2
  obtain rfl := Asc.unique b1 b2
  refine ⟨r, _, rfl, .inr hr, fun m hm => ?_⟩
  generalize hG : upd H4 m _ = H5
  obtain ⟨k5, e5⟩ := gen_new hm hG
  clear hG
  have k35 : Kp H3 H5 := fun b o e => k5 _ _ (k4 _ _ e)
  refine o_eqTwo (k35 _ _ e3) e5 (Tk.kp (fun b o e => k35 _ _ (k3 _ _ (k2 _ _ e))) _ _ h1) (Tk.kp (fun b o e => k35 _ _ (k3 _ _ e)) _ _ h2) (Tk.kp k5 _ _ ho) (Tk.kp k5 _ _ hn) (fun z hz => ok.names.1 z (a1.1.mem_iff.mp hz)) (fun z hz => ok.names.2 z (b1.1.mem_iff.mp hz)) (q H5)
theorem o_slA {H : Hp} {Q : VK} {a : Addr} {xs : List V} {lo hi : Option Int} (h : SqT K H a xs) (q : ∀ p H', Kp H H' → SqT K H' p (cutV xs lo hi) → Q (.ref p) H') : rSlA K (.ref a) lo hi H Q := by
  refine ⟨a, xs, rfl, h, fun e => ?_, fun _ p hp => ?_⟩
  · refine q a H (fun _ _ e => e) ?_
    have : cutV xs lo hi = xs := by unfold cutV; rw [e.1, e.2]; simp
    rw [this]; exact h
  · exact q p _ ((show Kp H H from fun _ _ h => h).new hp) (SqT.of upd_same)
theorem Ds.drop {H : Hp} : ∀ {n : Nat} {vs : List V} {ds : List Deed}, Ds K H vs ds → Ds K H (vs.drop n) (ds.drop n)
  | 0, _, _, h => h
  | _ + 1, _, _, .nil => .nil
  | n + 1, _, _, .cons _ b => Ds.drop (n := n) b
theorem Ds.take {H : Hp} : ∀ {n : Nat} {vs : List V} {ds : List Deed}, Ds K H vs ds → Ds K H (vs.take n) (ds.take n)
  | 0, _, _, _ => .nil
  | _ + 1, _, _, .nil => .nil
  | n + 1, _, _, .cons a b => .cons a (Ds.take (n := n) b)
theorem Ds.app {H : Hp} {v1 v2 : List V} {d1 d2 : List Deed} (h1 : Ds K H v1 d1) (h2 : Ds K H v2 d2) : Ds K H (v1 ++ v2) (d1 ++ d2) := by
  induction h1 with
  | nil => exact h2
  | cons a _ ih => exact .cons a ih
theorem sIx_le' (n d k : Nat) : HT.sIx n d (some (k : Int)) = min k n := HT.sIx_nat n d k
def t_law17 (K : PySem.W.Frag) : TS :=
  (tSeq (tAsg (tCall (sp_l_deck K) [] E0 (tCons (tVar 0) tNil)) (gName 1))
  (tSeq (tAsg (tCall sp_l_names [] E0 (tCons (tVar 1) (tCons (tC (.int 7)) tNil))) (gName 2))
  (tSeq (tPar 3 4 (tCons (tCall sp_l_draw [] E0 (tCons (tVar 1) (tCons (tC (.int 6)) tNil))) (tCons (tOp (rI0 fun i j => .int (i + j)) (tC (.int 1)) (tCall sp_l_draw [] E0 (tCons (tVar 1) (tCons (tC (.int 3)) tNil)))) tNil)))
  (tSeq (tAsg (tCall (sp_l_right_script K) [] E0 (tCons (tVar 1) (tCons (L2.tSl (rSlL K) (tVar 2) tNoPart (tPart (tVar 3))) (tCons (L2.tSl (rSlL K) (tVar 2) (tPart (tVar 3)) (tPart (tOp (rI0 fun i j => .int (i + j)) (tVar 3) (tVar 4)))) (tCons (tC (.int 12)) tNil))))) (gName 5))
  (C8.tCut (tIfS (tTest (tOp rEq (tCall sp_l_draw [] E0 (tCons (tVar 1) (tCons (tC (.int 8)) tNil))) (tC (.int 2)))) (tSeq (tAsg (tTup (tCons (tCall (sp_l_pick K) [] E0 (tCons (tVar 1) (tCons (tLst (tCons (tC (.str "put")) (tCons (tC (.str "wrap")) tNil))) tNil))) (tCons (tOp (rIxL K) (tVar 2) (tC (.int 0))) (tCons (tOp (rIxL K) (tVar 2) (tC (.int 0))) tNil)))) (gName 6))
  (tSeq (tAsg (tOp (rCatA K) (tOp (rCatA K) (L2.tSl (rSlA K) (tVar 5) tNoPart (tPart (tC (.int 4)))) (tTup (tCons (tVar 6) tNil))) (L2.tSl (rSlA K) (tVar 5) (tPart (tC (.int 4))) (tPart (tC (.int 11))))) (gName 5))
  (tSeq (tAsg (tCall (sp_l_roles K) [] E0 (tCons (tVar 5) tNil)) (gName 7))
  (tIfS (tOr (tTest (tOp (rI0 fun i j => .bl (decide (j < i))) (tCB (rLenSeq K) (tCons (tOp (rIxT K) (tVar 7) (tC (.int 0))) tNil)) (tC (.int 4)))) (tTest (tOp (rI0 fun i j => .bl (decide (j < i))) (tCB (rLenSeq K) (tCons (tOp (rIxT K) (tVar 7) (tC (.int 1))) tNil)) (tC (.int 3))))) (tAsg (tTup tNil) (gName 5)) tNext)))) tNext)
  (t_law17_r1 K))))))
theorem none_ok {zs : List Str} (h : ∀ z ∈ zs, IsName z) : ScriptOk zs [] := ⟨⟨(fun d hd => by cases hd), Nat.zero_le _, Nat.zero_le _⟩, Nat.zero_le _, h⟩
theorem pure_law17 (vs : List V) (H : Hp) (Q : VK) (E : XK) (h : sp_law K vs H Q E) : t_law17 K { nx := fun _ H' => Q .non H', rt := Q } (startN 8 vs) H := by
  obtain ⟨a, ns, rfl, _, hs, q⟩ := h
  show t_law17 K _ [some (.ref a), none, none, none, none, none, none, none] H
  unfold t_law17
  have hz := sizeLine_eq
  walk_at "rd"
  refine ⟨a, ns, rfl, hs, fun d H1 k1 hd _ => ?_⟩
  walk_at "rd"
  refine o_names hd (by decide) (by decide) fun l zs H2 hl k2 hzl hzn nd hnm => ?_
  walk_at "rd"
  have hld : l ≠ d := deck_ne hd hl
  refine o_draw k2.deck (by decide) (by decide) fun c H3 c0 c1 k3 => ?_
  refine o_draw k3.deck (by decide) (by decide) fun e H4 f0 f1 k4 => ?_
  walk_at "rd"
  have hz4 := k4.keep _ _ (k3.keep _ _ hzl hld) hld
  refine ⟨l, _, rfl, SqL.of hz4, fun p5 hp5 => ?_⟩
  have hp5d := deck_ne k4.deck hp5
  generalize hG : upd H4 p5 _ = H5
  obtain ⟨k5, e5⟩ := gen_new hp5 hG
  clear hG
  obtain ⟨x0, y0, z0, hd4⟩ := k4.deck
  refine ⟨l, _, rfl, SqL.of (k5 _ _ hz4), fun p6 hp6 => ?_⟩
  have hp6d : p6 ≠ d := deck_ne ⟨x0, y0, z0, k5 _ _ hd4⟩ hp6
  generalize hG : upd H5 p6 _ = H6
  obtain ⟨k6, e6⟩ := gen_new hp6 hG
  clear hG
  obtain ⟨cn, rfl⟩ : ∃ n : Nat, c = (n : Int) := ⟨c.toNat, by omega⟩
  obtain ⟨fn, rfl⟩ : ∃ n : Nat, e = (n : Int) := ⟨e.toNat, by omega⟩
  rw [show ((cn : Int) + (1 + (fn : Int))) = ((cn + (1 + fn) : Nat) : Int) by omega] at e6
  rw [cutV_str, HT.sIx_none, HT.sIx_nat, List.drop_zero, Nat.sub_zero, Nat.min_eq_left (by omega)] at e5
  rw [cutV_str, HT.sIx_nat, HT.sIx_nat, Nat.min_eq_left (a := cn) (by omega)] at e6
  generalize hb : min (cn + (1 + fn)) zs.length = bn at e6
  have hin : ∀ z ∈ zs.take cn ++ (zs.drop cn).take (bn - cn), z ∈ zs := fun z hz => by
    rcases List.mem_append.mp hz with h | h
    · exact List.mem_of_mem_take h
    · exact List.mem_of_mem_drop (List.mem_of_mem_take h)
  have hnz : zs.take cn ++ (zs.drop cn).take (bn - cn) ≠ [] := fun e => by
    have := congrArg List.length e
    simp only [List.length_append, List.length_take, List.length_drop, List.length_nil] at this
    omega
  refine ⟨d, p5, p6, _, _, 12, rfl, ⟨x0, y0, z0, k6 _ _ (k5 _ _ hd4)⟩, k6 _ _ e5, e6, hp5d, hp6d, hnz, by rw [List.length_take]; omega, by rw [List.length_take, List.length_drop]; omega, fun z hz => hnm z (hin z hz), by decide, by decide, fun t ds H7 k7 hds sc hdl => ?_⟩
  walk_at "rd"
  have hl7 := k7.keep _ _ (k6 _ _ (k5 _ _ hz4)) hld
  have ok7 : ScriptOk zs ds := ⟨⟨fun d hd => ⟨(sc.ok d hd).word, (sc.ok d hd).many, fun n hn => hin n ((sc.ok d hd).nms n hn)⟩, sc.old, sc.new⟩, by omega, hnm⟩
  refine ⟨fun σ H8 => ∃ (t : Addr) (ds : List Deed) (x6 x7 : Option V), DeedsAt K H8 t ds ∧ ScriptOk zs ds ∧ σ = [some (.ref a), some (.ref d), some (.ref l), some (.int (cn : Int)), some (.int (1 + (fn : Int))), some (.ref t), x6, x7], ?_, ?_⟩
  · walk_at "rd"
    refine o_draw k7.deck (by decide) (by decide) fun g H8 g0 g1 k8 => ?_
    have t78 : Tk K H7 H8 := k8.tk k7.deck
    obtain ⟨ws, s1, g1⟩ := hds
    refine ⟨rfl, ite2 (fun _ => ?_) fun _ => ⟨t, ds, _, _, ⟨ws, t78 _ _ s1, g1.mono t78⟩, ok7, rfl⟩⟩
    refine ⟨by show 2 ≤ sizeLine; omega, fun p9 hp9 => ?_⟩
    have hp9d := deck_ne k8.deck hp9
    generalize hG : upd H8 p9 _ = H9
    obtain ⟨k9, e9⟩ := gen_new hp9 hG
    clear hG
    obtain ⟨x1, y1, z1, hd8⟩ := k8.deck
    have e9' : H9 p9 = some (.lst ((["put", "wrap"] : List Str).map V.str)) := e9
    refine o_pick ⟨x1, y1, z1, k9 _ _ hd8⟩ e9' hp9d (by decide) (by decide) fun w H10 hw k10 => ?_
    have hl10 := k10.keep _ _ (k9 _ _ (k8.keep _ _ hl7 hld)) hld
    have hz0 : zs[0]? = some (zs[0]'(by omega)) := List.getElem?_eq_getElem (by omega)
    generalize zs[0]'(by omega) = z at hz0
    have hzz : z ∈ zs := List.mem_of_getElem? hz0
    have hat : atI (zs.map V.str) 0 = some (.str z) := atI_nat (j := 0) (by rw [List.getElem?_map, hz0]; rfl)
    refine o_ixL hl10 hat (o_ixL hl10 hat ⟨by show 3 ≤ sizeLine; omega, fun p11 hp11 => ?_⟩)
    generalize hG : upd H10 p11 _ = H11
    obtain ⟨k11, e11⟩ := gen_new hp11 hG
    clear hG
    have t911 : Tk K H8 H11 := ((Tk.kp k9).trans (k10.tk ⟨x1, y1, z1, k9 _ _ hd8⟩)).trans (Tk.kp k11)
    have t711 := t78.trans t911
    have hd11 : DeedAt K H11 p11 ⟨w, [z, z]⟩ := SqT.of e11
    have hwo : w ∈ words ∧ w ∉ words1 := by
      rcases List.mem_cons.mp hw with e | hw
      · rw [e]; exact ⟨put_in, put_no⟩
      · rw [List.mem_singleton.mp hw]; exact ⟨wrap_in, wrap_no⟩
    have hok : (⟨w, [z, z]⟩ : Deed).Ok zs := ⟨hwo.1, by show 2 = if w ∈ words1 then 1 else 2; rw [if_neg hwo.2], fun n hn => by
      rcases List.mem_cons.mp hn with e | hn
      · rw [e]; exact hzz
      · rw [List.mem_singleton.mp hn]; exact hzz⟩
    walk_at "rd"
    have hwl := g1.len
    have hdl2 := ok7.len
    refine o_slA (t711 _ _ s1) fun q12 H12 k12 h12 => ?_
    refine ⟨by show 1 ≤ sizeLine; omega, fun p13 hp13 => ?_⟩
    generalize hG : upd H12 p13 _ = H13
    obtain ⟨k13, e13⟩ := gen_new hp13 hG
    clear hG
    refine o_cat (Tk.kp k13 _ _ h12) (SqT.of e13) (by have := cutV_length ws none (some 4); simp only [List.length_cons, List.length_nil]; omega) fun q14 H14 k14 h14 => ?_
    refine o_slA (Tk.kp (fun b o e => k14 _ _ (k13 _ _ (k12 _ _ e))) _ _ (t711 _ _ s1)) fun q15 H15 k15 h15 => ?_
    refine o_cat (Tk.kp k15 _ _ h14) h15 (by have := cutV_length ws none (some 4); have := cutV_length ws (some 4) (some 11); simp only [List.length_append, List.length_cons, List.length_nil]; omega) fun q16 H16 k16 h16 => ?_
    walk_at "rd"
    have k1114 : Kp H11 H14 := fun b o e => k14 _ _ (k13 _ _ (k12 _ _ e))
    have k1116 : Kp H11 H16 := fun b o e => k16 _ _ (k15 _ _ (k1114 _ _ e))
    have t716 : Tk K H7 H16 := t711.trans (Tk.kp k1116)
    have g16 := g1.mono t716
    have c1 : HT.sIx ws.length ws.length (some (4 : Int)) = min 4 ws.length := HT.sIx_nat _ _ 4
    have c2 : HT.sIx ws.length ws.length (some (11 : Int)) = min 11 ws.length := HT.sIx_nat _ _ 11
    have c3 : HT.sIx ws.length 0 (some (4 : Int)) = min 4 ws.length := HT.sIx_nat _ _ 4
    have gA : Ds K H16 (cutV ws none (some 4)) (ds.take (min 4 ws.length)) := by
      unfold cutV
      rw [HT.sIx_none, c1, List.drop_zero, Nat.sub_zero]
      exact Ds.take g16
    have gB : Ds K H16 (cutV ws (some 4) (some 11)) ((ds.drop (min 4 ws.length)).take (min 11 ws.length - min 4 ws.length)) := by
      unfold cutV
      rw [c3, c2]
      exact Ds.take (Ds.drop g16)
    generalize hA : ds.take (min 4 ws.length) = dA at gA
    generalize hB : (ds.drop (min 4 ws.length)).take (min 11 ws.length - min 4 ws.length) = dB at gB
    have lA : dA.length ≤ 4 := by rw [← hA, List.length_take]; omega
    have lB : dB.length ≤ 7 := by rw [← hB, List.length_take]; omega
    have gAll : Ds K H16 (cutV ws none (some 4) ++ [.ref p11] ++ cutV ws (some 4) (some 11)) (dA ++ [(⟨w, [z, z]⟩ : Deed)] ++ dB) := Ds.app (gA.snoc (Tk.kp k1116 _ _ hd11)) gB
    have okA : ∀ e ∈ dA ++ [(⟨w, [z, z]⟩ : Deed)] ++ dB, e.Ok zs := fun e he => by
      rcases List.mem_append.mp he with he | he
      · rcases List.mem_append.mp he with he | he
        · exact ok7.sc.ok e (List.mem_of_mem_take (by rw [hA]; exact he))
        · rw [List.mem_singleton.mp he]; exact hok
      · exact ok7.sc.ok e (List.mem_of_mem_drop (List.mem_of_mem_take (by rw [hB]; exact he)))
    have lAll : (dA ++ [(⟨w, [z, z]⟩ : Deed)] ++ dB).length ≤ 12 := by simp only [List.length_append, List.length_cons, List.length_nil]; omega
    generalize dA ++ [(⟨w, [z, z]⟩ : Deed)] ++ dB = dd at gAll okA lAll
    refine ⟨q16, dd, rfl, ⟨_, h16, gAll⟩, by omega, fun e he => (okA e he).len.2, fun r o n ys zs2 H17 k17 hr ho hn ay az => ?_⟩
    walk_at "rd"
    refine ⟨r, _, 0, _, rfl, rfl, hr, atI_nat (j := 0) rfl, o, _, rfl, .inr ho, ?_⟩
    walk_at "rd"
    rw [List.length_map, ay.1.length_eq]
    have empty : ∃ (t : Addr) (ds : List Deed) (x6 x7 : Option V), True := ⟨t, ds, none, none, trivial⟩
    refine ite2 (fun _ => ?_) fun h5 => ?_
    · refine ⟨Nat.zero_le _, fun p18 hp18 => ?_⟩
      generalize hG : upd H17 p18 _ = H18
      obtain ⟨k18, e18⟩ := gen_new hp18 hG
      clear hG
      exact ⟨p18, [], _, _, ⟨[], SqT.of e18, .nil⟩, none_ok hnm, rfl⟩
    · refine ⟨r, _, 1, _, rfl, rfl, hr, atI_nat (j := 1) rfl, n, _, rfl, .inr hn, ?_⟩
      walk_at "rd"
      rw [List.length_map, az.1.length_eq]
      refine ite2 (fun _ => ?_) fun h4 => ?_
      · refine ⟨Nat.zero_le _, fun p18 hp18 => ?_⟩
        generalize hG : upd H17 p18 _ = H18
        obtain ⟨k18, e18⟩ := gen_new hp18 hG
        clear hG
        exact ⟨p18, [], _, _, ⟨[], SqT.of e18, .nil⟩, none_ok hnm, rfl⟩
      · have h5 : ¬ (4 : Int) < ((roles dd ([], [])).1.length : Int) := fun e => h5 (decide_eq_true e)
        have h4 : ¬ (3 : Int) < ((roles dd ([], [])).2.length : Int) := fun e => h4 (decide_eq_true e)
        exact ⟨q16, dd, _, _, ⟨_, Tk.kp k17 _ _ h16, gAll.mono (Tk.kp k17)⟩, ⟨⟨okA, by omega, by omega⟩, lAll, hnm⟩, rfl⟩
  · rintro σ H8 ⟨t, ds, x6, x7, hd, ok, rfl⟩
    exact law_rest hd ok q
end
end Tw
set_option Elab.async false
set_option linter.all false
set_option maxRecDepth 100000
set_option maxHeartbeats 4000000
/-! the program's _first_kinds, old_names, new_names -/
namespace Tw
open PySem PySem.Spec PyProof.Rows L2 TL
local macro_rules | `(tactic| walk_at "rd") => `(tactic| try simp only [o_op, o_un, o_var, o_c, o_cb, o_call, o_cons, o_nil, o_tup, o_lst, o_I0, o_I, o_int1, o_intb, o_abs, o_test, o_b, o_not, o_and, o_or, o_andV, o_orV, o_notV, o_ifE, o_isN, o_notN, o_eq, o_ne, o_seq, o_next, o_asg, o_name, o_sub, o_par, o_par3, o_drop, o_ret, o_retN, o_ifS, o_sl, o_noPart, o_part, o_bm, o_bm0, o_m0, o_m1, o_dget, o_dput, o_din, o_dnotin, o_listKeys, e_bl, e_int, e_str, e_some, e_two, e_three, o_for, o_lc, o_iList, o_iTup, o_iRng1, e_int1, e_ref, o_yes, o_wipe0, o_wipe1, o_disp, o_dnew, o_pairs0, o_pairs1, o_lock, o_keysM, o_gtup, o_gcons, o_gnil, o_rU, o_tru, o_revT, o_enumT, o_from, true_and, if_pos, List.getElem?_cons_zero, List.getElem?_cons_succ, List.set_cons_zero, List.set_cons_succ, List.append_nil])
theorem walk_zipS {K : PySem.W.Frag} {x : Str} {b : Addr} {ys : List V} (hn : x.cps.size = ys.length) : Walk (ItzS K x b) ys.length (fun H => SqT K H b ys)
    (fun i H v H' => ∃ T c y, v = .ref T ∧ H T = none ∧ H' = upd H T (.tup [.str ⟨#[c]⟩, y]) ∧ x.cps[i]? = some c ∧ ys[i]? = some y) :=
  ⟨fun i _ hi q => ⟨ys, ys[i], by omega, q, by simp [hi]⟩, fun _ q => ⟨ys, q, by omega, Nat.le_refl _, .inr rfl⟩, fun i H v H' _ q y => by
    obtain ⟨T, c, z, h1, h2, h3, h4, h5⟩ := y
    exact ⟨T, c, z, h1, h2, h3, h4, h5 ys q⟩⟩
theorem forms_all : words.all (fun w => formsL.any fun q => decide (q.1 = w) && (decide (q.2.cps.size = if w ∈ words1 then 1 else 2) && q.2.cps.toList.zipIdx.all fun p => decide ((⟨#[p.1]⟩ : Str) = if p.2 + 1 = madeOf w then ("n" : Str) else ("o" : Str)))) = true := by decide +kernel
/-- what a word's names stand for -/
theorem forms_of {w : Str} (hw : w ∈ words) : ∃ f : Str, (w, f) ∈ formsL ∧ f.cps.size = (if w ∈ words1 then 1 else 2) ∧ ∀ (j c : Nat), f.cps[j]? = some c → (⟨#[c]⟩ : Str) = if j + 1 = madeOf w then ("n" : Str) else ("o" : Str) := by
  have h := List.all_eq_true.mp forms_all w hw
  obtain ⟨q, hq, h⟩ := List.any_eq_true.mp h
  rw [Bool.and_eq_true, Bool.and_eq_true] at h
  obtain ⟨h1, h2, h3⟩ := h
  have e1 := of_decide_eq_true h1
  refine ⟨q.2, by rw [← e1]; exact hq, of_decide_eq_true h2, fun j c hc => ?_⟩
  have hm : (c, j) ∈ q.2.cps.toList.zipIdx := by
    rw [List.mem_zipIdx_iff_getElem?]
    simpa using hc
  exact of_decide_eq_true (List.all_eq_true.mp h3 _ hm)
/-- the kinds of names as they stand for the first time -/
structure Knd (ks : List (Str × Str)) (r : List Str × List Str) : Prop where
  o : (ks.filter fun p => decide (p.2 = ("o" : Str))).map (·.1) = r.1
  n : (ks.filter fun p => decide (p.2 = ("n" : Str))).map (·.1) = r.2
  all : ∀ p ∈ ks, p.2 = ("o" : Str) ∨ p.2 = ("n" : Str)
  nd : (ks.map (·.1)).Nodup
def kd (ks : List (Str × Str)) : List (Str × V) := ks.map fun p => (p.1, .str p.2)
theorem kd_nm (ks : List (Str × Str)) : (kd ks).map (·.1) = ks.map (·.1) := by unfold kd; rw [List.map_map]; rfl
theorem Knd.mem {ks : List (Str × Str)} {r : List Str × List Str} (h : Knd ks r) (z : Str) : z ∈ ks.map (·.1) ↔ z ∈ r.1 ++ r.2 := by
  rw [← h.o, ← h.n]
  constructor
  · intro hz
    obtain ⟨p, hp, rfl⟩ := List.mem_map.mp hz
    rcases h.all p hp with e | e
    · exact List.mem_append_left _ (List.mem_map.mpr ⟨p, List.mem_filter.mpr ⟨hp, by simpa using e⟩, rfl⟩)
    · exact List.mem_append_right _ (List.mem_map.mpr ⟨p, List.mem_filter.mpr ⟨hp, by simpa using e⟩, rfl⟩)
  · intro hz
    rcases List.mem_append.mp hz with hz | hz
    · obtain ⟨p, hp, rfl⟩ := List.mem_map.mp hz
      exact List.mem_map.mpr ⟨p, (List.mem_filter.mp hp).1, rfl⟩
    · obtain ⟨p, hp, rfl⟩ := List.mem_map.mp hz
      exact List.mem_map.mpr ⟨p, (List.mem_filter.mp hp).1, rfl⟩
theorem Knd.nil : Knd [] ([], []) := ⟨rfl, rfl, (fun _ h => by cases h), List.nodup_nil⟩
theorem Knd.len {ks : List (Str × Str)} {r : List Str × List Str} (h : Knd ks r) : ks.length = r.1.length + r.2.length := by
  have : ∀ l : List (Str × Str), (∀ p ∈ l, p.2 = ("o" : Str) ∨ p.2 = ("n" : Str)) → l.length = (l.filter fun p => decide (p.2 = ("o" : Str))).length + (l.filter fun p => decide (p.2 = ("n" : Str))).length := by
    intro l
    induction l with
    | nil => intro _; rfl
    | cons p l ih =>
      intro ha
      have i := ih fun q hq => ha q (List.mem_cons_of_mem _ hq)
      rcases ha p (List.mem_cons_self ..) with e | e
      · have e2 : ¬ p.2 = ("n" : Str) := by rw [e]; decide +kernel
        rw [List.filter_cons_of_pos (by simpa using e), List.filter_cons_of_neg (by simpa using e2), List.length_cons, List.length_cons, i]; omega
      · have e2 : ¬ p.2 = ("o" : Str) := by rw [e]; decide +kernel
        rw [List.filter_cons_of_neg (by simpa using e2), List.filter_cons_of_pos (by simpa using e), List.length_cons, List.length_cons, i]; omega
  rw [this ks h.all, ← h.o, ← h.n, List.length_map, List.length_map]
/-- one more name -/
theorem Knd.step {ks : List (Str × Str)} {r : List Str × List Str} (h : Knd ks r) {z : Str} (hz : z ∉ r.1 ++ r.2) (b : Bool) : Knd (ks ++ [(z, if b then ("n" : Str) else ("o" : Str))]) (if b then (r.1, r.2 ++ [z]) else (r.1 ++ [z], r.2)) := by
  have hz2 : z ∉ ks.map (·.1) := fun q => hz ((h.mem z).mp q)
  have no : ¬ ("n" : Str) = "o" := by decide +kernel
  have on : ¬ ("o" : Str) = "n" := by decide +kernel
  have nd : ((ks ++ [(z, if b then ("n" : Str) else ("o" : Str))]).map (·.1)).Nodup := by
    rw [List.map_append, List.nodup_append]
    refine ⟨h.nd, by simp, fun a ha c hc => ?_⟩
    have hc2 : c = z := by simpa using hc
    rw [hc2]
    exact fun e => hz2 (by rw [← e]; exact ha)
  have al : ∀ p ∈ ks ++ [(z, if b then ("n" : Str) else ("o" : Str))], p.2 = ("o" : Str) ∨ p.2 = ("n" : Str) := fun p hp => by
    rcases List.mem_append.mp hp with hp | hp
    · exact h.all p hp
    · rw [List.mem_singleton.mp hp]; cases b <;> simp
  cases b
  · refine ⟨?_, ?_, al, nd⟩
    · rw [List.filter_append, List.map_append, h.o]; simp
    · rw [List.filter_append, List.map_append, h.n]; simp [on]
  · refine ⟨?_, ?_, al, nd⟩
    · rw [List.filter_append, List.map_append, h.o]; simp [no]
    · rw [List.filter_append, List.map_append, h.n]; simp
def sp_u_first_kinds (K : PySem.W.Frag) : Sp := fun vs H Q _ => ∃ (t : Addr) (ds : List Deed), vs = [.ref t] ∧ DeedsAt K H t ds ∧ (∀ d ∈ ds, ∃ zs, d.Ok zs) ∧ ds.length ≤ 30 ∧
  ∀ (a : Addr) (ks : List (Str × Str)) (H' : Hp), Kp H H' → H a = none → H' a = some (.dK (pk (kd ks))) → Knd ks (roles ds ([], [])) → ks.length ≤ 60 → Q (.ref a) H'
def t_u_first_kinds_b1 (K : PySem.W.Frag) (w : World) (F_FORMS : Addr) : TS :=
  (tDrop (tDSetd (tVar 1) (tVar 4) (tVar 3)))
def t_u_first_kinds_b2 (K : PySem.W.Frag) (w : World) (F_FORMS : Addr) : TS :=
  (tFor (iZipS K (tCons (tOp (rIxD K w) (tC (.ref F_FORMS)) (tOp (rIxT K) (tVar 2) (tC (.int 0)))) (tCons (L2.tSl (rSlA K) (tVar 2) (tPart (tC (.int 1))) tNoPart) tNil))) (gTup K 2 (gCons (gName 3) (gCons (gName 4) gNil)))
  (t_u_first_kinds_b1 K w F_FORMS))
def t_u_first_kinds (K : PySem.W.Frag) (w : World) (F_FORMS : Addr) : TS :=
  (tSeq (tAsg tDNewK (gName 1))
  (tSeq (tFor (iTup K (tVar 0)) (gName 2)
  (t_u_first_kinds_b2 K w F_FORMS))
  (tRet (tVar 1))))
section
variable {K : PySem.W.Frag} {w : World} {F_FORMS : Addr}
theorem o_dsetd {td ty tx : TE} {σ : L2.St} {H : Hp} {Q : VK} : tDSetd td ty tx σ H Q = td σ H fun x H1 => ∃ a, x = .ref a ∧ IsD H1 a ∧ ty σ H1 fun y H2 => tx σ H2 fun z H3 => ∃ (kvs : List (Key × V)) (k : Key), H3 a = some (.dK kvs) ∧ y = kV k ∧ kvs.length < sizeLine ∧
  (∀ v, valV kvs k = some v → Q v H3) ∧ (valV kvs k = none → Q z (upd H3 a (.dK (putK kvs k z)))) := rfl
theorem o_iZipS {ta : TA} {σ : L2.St} {H : Hp} {R : It → Hp → Prop} : iZipS K ta σ H R = ta σ H fun vs H1 => ∃ x b ys, vs = [.str x, .ref b] ∧ SqT K H1 b ys ∧ R (ItzS K x b) H1 := rfl
theorem len_u_first_kinds (vs : List V) (H : Hp) (Q : VK) (E : XK) (h : sp_u_first_kinds K vs H Q E) : vs.length = 1 := by
  obtain ⟨_, _, rfl, _⟩ := h; rfl
theorem cut_tail (x : V) (xs : List V) : cutV (x :: xs) (some 1) none = xs := by
  unfold cutV
  rw [HT.sIx_none, show HT.sIx (x :: xs).length 0 (some (1 : Int)) = min 1 (x :: xs).length from HT.sIx_nat _ _ 1, Nat.min_eq_left (by simp)]
  simp
theorem pure_u_first_kinds (f_FORMS : FormsAt K w F_FORMS formsL) (vs : List V) (H : Hp) (Q : VK) (E : XK) (h : sp_u_first_kinds K vs H Q E) : t_u_first_kinds K w F_FORMS { nx := fun _ H' => Q .non H', rt := Q } (startN 5 vs) H := by
  obtain ⟨t, ds, rfl, ⟨ws, ht, hds⟩, hok, hl, q⟩ := h
  show t_u_first_kinds K w F_FORMS _ [some (.ref t), none, none, none, none] H
  unfold t_u_first_kinds
  have hz := sizeLine_eq
  walk_at "rd"
  refine fun a ha => ?_
  generalize hG : upd H a _ = H1
  obtain ⟨k1, e1⟩ := gen_new ha hG
  clear hG
  refine ⟨⟨_, Tk.kp k1 _ _ ht⟩, ?_⟩
  refine fb_tup (xs := ws) (fun i σ H3 => ∃ (ks : List (Str × Str)) (r : List Str × List Str) (x y z : Option V), Kp H H3 ∧ H3 a = some (.dK (pk (kd ks))) ∧ Knd ks r ∧ roles (ds.drop i) r = roles ds ([], []) ∧ ks.length ≤ 2 * i ∧ i ≤ ds.length ∧ σ = [some (.ref t), some (.ref a), x, y, z]) ?_ ?_ ?_ ?_
  · exact ⟨[], ([], []), _, _, _, k1, e1, .nil, rfl, Nat.le_refl _, Nat.zero_le _, rfl⟩
  · rintro i σ H3 _ ⟨ks, r, x, y, z, k3, _⟩
    exact Tk.kp k3 _ _ ht
  · rintro i v σ H3 hx ⟨ks, r, x, y, z, k3, ha3, hk, heq, hkl, hi, rfl⟩
    obtain ⟨p, d, rfl, hd, hda⟩ := hds.at hx
    rw [drop_at hd] at heq
    have hi2 := (List.getElem?_eq_some_iff.mp hd).1
    obtain ⟨zs, okd⟩ := hok d (List.mem_of_getElem? hd)
    have hdl := okd.len
    have hp3 : SqT K H3 p (.str d.word :: d.names.map V.str) := Tk.kp k3 _ _ hda
    obtain ⟨f, hf, hfl, hfc⟩ := forms_of okd.word
    rw [← okd.many] at hfl
    unfold t_u_first_kinds_b2
    walk_at "rd"
    refine ⟨p, _, 0, _, rfl, rfl, hp3, atI_nat (j := 0) rfl, ?_⟩
    refine ⟨_, _, _, rfl, rfl, f_FORMS.dct hf, ?_⟩
    refine o_slA hp3 fun b H4 k4 hb4 => ?_
    rw [cut_tail] at hb4
    refine ⟨f, b, _, rfl, hb4, ?_⟩
    have k04 : Kp H H4 := fun b o e => k4 _ _ (k3 _ _ e)
    refine fb_walk (walk_zipS (ys := d.names.map V.str) (by rw [List.length_map]; exact hfl)) (fun j σ H6 => ∃ (ks' : List (Str × Str)) (r' : List Str × List Str) (y z : Option V), Kp H H6 ∧ SqT K H6 b (d.names.map V.str) ∧ H6 a = some (.dK (pk (kd ks'))) ∧ Knd ks' r' ∧
      roleNames (madeOf d.word) (1 + j) (d.names.drop j) r' = roleNames (madeOf d.word) 1 d.names r ∧ ks'.length ≤ 2 * i + j ∧ σ = [some (.ref t), some (.ref a), some (.ref p), y, z]) ?_ ?_ ?_ ?_
    · exact ⟨ks, r, _, _, k04, hb4, k4 _ _ ha3, hk, rfl, by omega, rfl⟩
    · rintro j σ H6 _ ⟨ks', r', y, z, k6, hb6, _⟩
      exact hb6
    · rintro j v σ H6 H7 hj ⟨ks', r', y, z, k6, hb6, ha6, hk6, heq6, hl6, rfl⟩ ⟨T, c, y2, rfl, hT, rfl, hc, hy⟩
      rw [List.getElem?_map] at hy
      obtain ⟨n, hn, rfl⟩ := Option.map_eq_some_iff.mp hy
      rw [drop_at hn] at heq6
      generalize hG : upd H6 T _ = H7
      obtain ⟨k7, e7⟩ := gen_new hT hG
      clear hG
      walk_at "rd"
      refine ⟨T, _, rfl, SqT.of e7, rfl, _, _, rfl, _, _, rfl, rfl, ?_⟩
      unfold t_u_first_kinds_b1
      walk_at "rd"
      rw [o_dsetd]
      walk_at "rd"
      have ha7 := k7 _ _ ha6
      have k07 : Kp H H7 := fun b o e => k7 _ _ (k6 _ _ e)
      have step : roleNames (madeOf d.word) (1 + j) (n :: d.names.drop (j + 1)) r' = roleNames (madeOf d.word) (1 + (j + 1)) (d.names.drop (j + 1)) (if n ∈ r'.1 ++ r'.2 then r' else if 1 + j = madeOf d.word then (r'.1, r'.2 ++ [n]) else (r'.1 ++ [n], r'.2)) := rfl
      rw [step] at heq6
      have hj2 : j < d.names.length := by rw [List.length_map] at hj; exact hj
      refine ⟨.inl ⟨_, .inl ha7⟩, _, Sum.inr n, ha7, rfl, by rw [List.length_map]; unfold kd; rw [List.length_map]; omega, fun v hv => ?_, fun hv => ?_⟩
      · have hm : n ∈ r'.1 ++ r'.2 := by
          rw [← hk6.mem]
          refine Classical.byContradiction fun hh => ?_
          rw [pk_none (by rw [kd_nm]; exact hh)] at hv
          cases hv
        rw [if_pos hm] at heq6
        exact ⟨ks', r', _, _, k07, Tk.kp k7 _ _ hb6, ha7, hk6, heq6, by omega, rfl⟩
      · have hm : n ∉ r'.1 ++ r'.2 := by
          rw [← hk6.mem]
          intro hh
          obtain ⟨q2, hq2, eq2⟩ := List.mem_map.mp hh
          have : (n, V.str q2.2) ∈ kd ks' := List.mem_map.mpr ⟨q2, hq2, by rw [eq2]⟩
          rw [pk_some (by rw [kd_nm]; exact hk6.nd) this] at hv
          cases hv
        rw [if_neg hm] at heq6
        generalize hG : upd H7 a _ = H8
        obtain ⟨k8, e8⟩ := gen_chg hG
        clear hG
        rw [putK_new _ hv] at e8
        have hkk := hk6.step hm (decide (j + 1 = madeOf d.word))
        have hcc : (⟨#[c]⟩ : Str) = if decide (j + 1 = madeOf d.word) = true then ("n" : Str) else ("o" : Str) := by rw [hfc j c hc]; simp
        rw [hcc] at e8
        refine ⟨_, _, _, _, fun b o e => k8 _ _ (k07 _ _ e) (ne_of_none e ha), Tk.but (.inr (.inl ⟨_, ha7⟩)) k8 _ _ (Tk.kp k7 _ _ hb6), ?_, hkk, ?_, by rw [List.length_append, List.length_singleton]; omega, rfl⟩
        · rw [e8]; unfold kd; simp
        · rw [← heq6, show 1 + j = j + 1 by omega]
          by_cases hmm : j + 1 = madeOf d.word
          · rw [if_pos hmm, decide_eq_true hmm]; rfl
          · rw [if_neg hmm, decide_eq_false hmm]; rfl
    · rintro σ H6 ⟨ks', r', y, z, k6, hb6, ha6, hk6, heq6, hl6, rfl⟩
      rw [List.length_map, List.drop_length] at heq6
      have e : r' = roleNames (madeOf d.word) 1 d.names r := heq6
      rw [List.length_map] at hl6
      exact ⟨ks', r', _, _, _, k6, ha6, hk6, by rw [e]; exact heq, by omega, by omega, rfl⟩
  · rintro σ H3 ⟨ks, r, x, y, z, k3, ha3, hk, heq, hkl, hi, rfl⟩
    rw [hds.len] at heq hkl
    rw [List.drop_length] at heq
    have e : r = roles ds ([], []) := heq
    walk_at "rd"
    exact q a ks H3 k3 ha ha3 (by rw [← e]; exact hk) (by omega)
def t_old_names (K : PySem.W.Frag) : TS :=
  (tSeq (tAsg (tCall (sp_u_first_kinds K) [] E0 (tCons (tVar 0) tNil)) (gName 1))
  (tRet (tCB (rTupleOf K) (tCons (tCB (rSortedS K) (tCons (tLockE (tLc (iKeys (tVar 1)) (gName 2) (tTest (tOp rEq (tDGet (tVar 1) (tVar 2)) (tC (.str "o")))) (tVar 2) [2])) tNil)) tNil))))
def t_new_names (K : PySem.W.Frag) : TS :=
  (tSeq (tAsg (tCall (sp_u_first_kinds K) [] E0 (tCons (tVar 0) tNil)) (gName 1))
  (tRet (tCB (rTupleOf K) (tCons (tCB (rSortedS K) (tCons (tLockE (tLc (iKeys (tVar 1)) (gName 2) (tTest (tOp rEq (tDGet (tVar 1) (tVar 2)) (tC (.str "n")))) (tVar 2) [2])) tNil)) tNil))))
theorem ks_take {ks : List (Str × Str)} {i : Nat} {p : Str × Str} {v : Str} (h : ks[i]? = some p) : ((ks.take (i + 1)).filter fun p => decide (p.2 = v)).map (·.1) = ((ks.take i).filter fun p => decide (p.2 = v)).map (·.1) ++ (if decide (p.2 = v) then [p.1] else []) := by
  rw [List.take_add_one, h, List.filter_append, List.map_append]
  congr 1
  by_cases e : p.2 = v
  · simp [e]
  · simp [e]
/-- the names of one kind, sorted, as a tuple -/
theorem kinds_rest {H : Hp} {Q : VK} {D : Ends} {a : Addr} {x0 : Option V} {ks : List (Str × Str)} {r : List Str × List Str} (v : Str) (hDr : D.rt = Q) (ha : H a = some (.dK (pk (kd ks)))) (hk : Knd ks r) (hl : ks.length ≤ 60)
    (q : ∀ p ys H', Kp H H' → SqT K H' p (ys.map V.str) → Asc ys ((ks.filter fun p => decide (p.2 = v)).map (·.1)) → Q (.ref p) H') :
    (tRet (tCB (rTupleOf K) (tCons (tCB (rSortedS K) (tCons (tLockE (tLc (iKeys (tVar 1)) (gName 2) (tTest (tOp rEq (tDGet (tVar 1) (tVar 2)) (tC (.str v)))) (tVar 2) [2])) tNil)) tNil))) D [x0, some (.ref a), none] H := by
  have hz := sizeLine_eq
  walk_at "rd"
  rw [o_lockE]
  refine ⟨a, _, ha, trivial, fun od => ?_⟩
  generalize hG : upd H a _ = H3
  obtain ⟨k3, e3⟩ := gen_chg hG
  walk_at "rd"
  rw [o_keysD]
  walk_at "rd"
  refine ⟨a, od, rfl, .inl ⟨_, e3, ?_⟩⟩
  have hkl : (kd ks).length = ks.length := by unfold kd; rw [List.length_map]
  refine lb_walk walk_keys (fun D i H4 => H3 D = none ∧ Kp H3 H4 ∧ H4 D = some (.lst ((((ks.take i).filter fun p => decide (p.2 = v)).map (·.1)).map V.str))) ?_ ?_ ?_ ?_
  · intro D hD
    exact ⟨hD, (show Kp H3 H3 from fun _ _ h => h).new hD, by rw [upd_same]; rfl⟩
  · rintro D i H4 hi ⟨hD, k4, _⟩
    exact k4 _ _ e3
  · rintro D i x H4 H5 hi ⟨hD, k4, h4⟩ ⟨rfl, key, w, hkv, rfl⟩
    unfold pk kd at hkv
    rw [List.map_map, List.getElem?_map, Option.map_eq_some_iff] at hkv
    obtain ⟨p, hp, ep⟩ := hkv
    cases ep
    have hi2 := (List.getElem?_eq_some_iff.mp hp).1
    have hm : p ∈ ks := List.mem_of_getElem? hp
    show gName 2 (.str p.1) _ _ _
    walk_at "rd"
    have hg : DGet H5 a (.str p.1) (some (.str p.2)) := by
      have h : valV (pk (kd ks)) (Sum.inr p.1) = some (.str p.2) := pk_some (by rw [kd_nm]; exact hk.nd) (List.mem_map.mpr ⟨p, hm, rfl⟩)
      exact .inl ⟨_, Sum.inr p.1, .inr ⟨_, k4 _ _ e3⟩, rfl, h.symm⟩
    refine ⟨a, _, rfl, hg, ?_⟩
    walk_at "rd"
    have ev : decide (V.str p.2 = V.str v) = decide (p.2 = v) := by
      by_cases e : p.2 = v
      · rw [e]; simp
      · have e2 : ¬ V.str p.2 = V.str v := fun q => e (V.str.inj q)
        simp [e, e2]
    have hle : (((ks.take i).filter fun p => decide (p.2 = v)).map (·.1)).length ≤ 60 := by
      rw [List.length_map]
      have := List.length_filter_le (fun p : Str × Str => decide (p.2 = v)) (ks.take i)
      rw [List.length_take] at this
      omega
    rw [ks_take hp, ev]
    refine ⟨rfl, ite2 (fun hc => ?_) fun hc => ?_⟩
    · refine ⟨_, h4, by rw [List.length_map]; omega, hD, fun b o e => ?_, ?_⟩
      · rw [upd_ne (ne_of_none e hD)]; exact k4 _ _ e
      · rw [upd_same, if_pos hc]; simp
    · refine ⟨hD, k4, ?_⟩
      rw [if_neg hc, List.append_nil]; exact h4
  · rintro D H4 hD ⟨_, k4, h4⟩
    refine ⟨k4 _ _ e3, ?_⟩
    rw [List.length_map, hkl, List.take_length] at h4
    have hDd : D ≠ a := fun e => by rw [e, e3] at hD; cases hD
    generalize hG2 : upd H4 a _ = H5
    obtain ⟨k5, e5⟩ := gen_chg hG2
    have h5 := k5 _ _ h4 hDd
    refine ⟨D, _, rfl, SqL.of h5, ?_, fun ys p4 a4 b4 hp4 => ?_⟩
    · rw [List.length_map]
      have := List.length_filter_le (fun p : Str × Str => decide (p.2 = v)) ks
      omega
    generalize hG3 : upd H5 p4 _ = H6
    obtain ⟨k6, e6⟩ := gen_new hp4 hG3
    refine ⟨p4, _, rfl, .inl ⟨SqL.of e6, fun p5 hp5 => ?_⟩⟩
    generalize hG4 : upd H6 p5 _ = H7
    obtain ⟨k7, e7⟩ := gen_new hp5 hG4
    rw [hDr]
    refine q p5 ys H7 (fun b o e => k7 _ _ (k6 _ _ ?_)) (SqT.of e7) ⟨a4, b4⟩
    by_cases bd : b = a
    · rw [bd, ha] at e
      rw [bd, e5]; exact e
    · exact k5 _ _ (k4 _ _ (k3 _ _ e bd)) bd
theorem len_old_names (vs : List V) (H : Hp) (Q : VK) (E : XK) (h : sp_old_names K vs H Q E) : vs.length = 1 := by
  obtain ⟨_, _, rfl, _⟩ := h; rfl
theorem len_new_names (vs : List V) (H : Hp) (Q : VK) (E : XK) (h : sp_new_names K vs H Q E) : vs.length = 1 := by
  obtain ⟨_, _, rfl, _⟩ := h; rfl
theorem pure_old_names (vs : List V) (H : Hp) (Q : VK) (E : XK) (h : sp_old_names K vs H Q E) : t_old_names K { nx := fun _ H' => Q .non H', rt := Q } (startN 3 vs) H := by
  obtain ⟨t, ds, rfl, hd, ok, hl, q⟩ := h
  show t_old_names K _ [some (.ref t), none, none] H
  unfold t_old_names
  walk_at "rd"
  refine ⟨t, ds, rfl, hd, ok, hl, fun a ks H1 k1 _ e1 hk hlk => ?_⟩
  refine kinds_rest (D := { nx := fun _ H' => Q .non H', rt := Q }) (Q := Q) "o" rfl e1 hk hlk ?_
  intro p ys H2 k2 h2 hs
  exact q p ys H2 (fun b o e => k2 _ _ (k1 _ _ e)) h2 (by rw [← hk.o]; exact hs)
theorem pure_new_names (vs : List V) (H : Hp) (Q : VK) (E : XK) (h : sp_new_names K vs H Q E) : t_new_names K { nx := fun _ H' => Q .non H', rt := Q } (startN 3 vs) H := by
  obtain ⟨t, ds, rfl, hd, ok, hl, q⟩ := h
  show t_new_names K _ [some (.ref t), none, none] H
  unfold t_new_names
  walk_at "rd"
  refine ⟨t, ds, rfl, hd, ok, hl, fun a ks H1 k1 _ e1 hk hlk => ?_⟩
  refine kinds_rest (D := { nx := fun _ H' => Q .non H', rt := Q }) (Q := Q) "n" rfl e1 hk hlk ?_
  intro p ys H2 k2 h2 hs
  exact q p ys H2 (fun b o e => k2 _ _ (k1 _ _ e)) h2 (by rw [← hk.n]; exact hs)
theorem len_law17 : True := trivial
end
end Tw
set_option Elab.async false
set_option linter.all false
set_option maxRecDepth 100000
set_option maxHeartbeats 4000000
/-! values of any kind, dicts too: what isinstance, in and == with an empty one say of them -/
namespace Tw
open PySem PySem.Spec PyProof.Rows L2 TL
open AutoSeq1 (wpAny_loadPart')
open SeqAt (EqAt RcAt)
theorem sub_str_dict : isSubtype (.type "str") (.type "dict") = pure false := by rw [isSubtype_type]; kernel_rfl
theorem dict_eq_declines_str (l : Addr) (es : Array DictEntry) (n : Nat) (dd : Option Addr) (sl : Array (Option Value)) (b : Str) (u : Tok) :
    Meets (Builtin.«dict.__eq__» ⟨[.ref l, .str b u], []⟩) (fun _ R s => s.heap.get? l = some { cls := .type "dict", dict := dd, data := .dict es n, slots := sl } ∧ R (.ok (.ret .notImplemented)) s) :=
  .of_wp fun prog w A R s h => by obtain ⟨hp, g, d, tk, os⟩ := s; obtain ⟨hl, h⟩ := h; have f1 := sub_str_dict; wp_walk using wpAny_loadPart' hl, wpAny_load hl; exact ⟨_, rfl, h⟩
theorem str_eq_declines_dict (b : Str) (u : Tok) (l : Addr) (es : Array DictEntry) (n : Nat) (dd : Option Addr) (sl : Array (Option Value)) :
    Meets (Builtin.«str.__eq__» ⟨[.str b u, .ref l], []⟩) (fun _ R s => s.heap.get? l = some { cls := .type "dict", dict := dd, data := .dict es n, slots := sl } ∧ R (.ok (.ret .notImplemented)) s) :=
  .of_wp fun prog w A R s h => by obtain ⟨hp, g, d, tk, os⟩ := s; obtain ⟨hl, h⟩ := h; wp_walk using wpAny_loadPart' hl, wpAny_load hl; exact ⟨_, rfl, h⟩
section
variable {A : Around} {s : Shared}
theorem rc_str_dict {l : Addr} {o : Obj} {es : Array DictEntry} {n : Nat} (b : Str) (u : Tok) (ho : s.heap.get? l = some o) (he : o.ExactDict) (hd : o.data = .dict es n) (hu : A.units < cLine) : RcAt A s (.str b u) (.ref l) false := fun prog w E Q h => by
  obtain ⟨cls, dd, data, sl⟩ := o
  obtain ⟨hc, h2, h3⟩ := he
  simp only at hc h2 h3 hd
  subst hc h2 h3 hd
  exact SeqAt.rc_eq_decline_or (k := false) (typeIs_str s b u) ⟨_, ho, rfl⟩ (by decide) (by rw [isSubtype_type]; kernel_rfl) F.slot_str_eq F.slot_dict_eq_refl
    (fun _ hq => call_meets F.slot_str_eq (typeIs_str s b u) F.entry_str_eq (F.args_str_eq_2 _ _) (str_eq_declines_dict b u l es n none #[]) ⟨ho, hq⟩)
    (fun _ hq => call_meets F.slot_dict_eq_refl ⟨_, ho, rfl⟩ F.entry_dict_eq (F.args_dict_eq_2 _ _) (dict_eq_declines_str l es n none #[] b u) ⟨ho, hq⟩)
    (fun _ hq => wpAny_of_eq (rfl : isSame (.str b u) (.ref l) = pure false) hq) (.inr hu) h
theorem eq_str_dict {l : Addr} {o : Obj} {es : Array DictEntry} {n : Nat} (b : Str) (u : Tok) (ho : s.heap.get? l = some o) (he : o.ExactDict) (hd : o.data = .dict es n) (hu : A.units < cLine) : EqAt A s (.str b u) (.ref l) false := fun prog w E Q h => by
  unfold eqBool
  refine wpAny_holding ?_
  refine wpAny_ite_split (fun hab => absurd (eq_of_beq hab) nofun) (fun _ => ?_)
  exact wpAny_bind (rc_str_dict b u ho he hd hu prog w E _ (wpAny_truthy_bool h))
end
/-- no string, no tuple -/
inductive Oth (K : PySem.W.Frag) (H : Hp) : V → Prop where
  | non : Oth K H .non
  | bl (b : Bool) : Oth K H (.bl b)
  | int (i : Int) : Oth K H (.int i)
  | lst {a : Addr} {xs : List V} (h : H a = some (.lst xs)) : Oth K H (.ref a)
  | dic {a : Addr} {kvs : List (Key × V)} (h : H a = some (.dK kvs)) : Oth K H (.ref a)
/-- no string -/
inductive Nt (K : PySem.W.Frag) (H : Hp) : V → Prop where
  | oth {v : V} (h : Oth K H v) : Nt K H v
  | tup {a : Addr} {xs : List V} (h : SqT K H a xs) : Nt K H (.ref a)
theorem Oth.dk {K : PySem.W.Frag} {H H' : Hp} {d : Addr} (k : Dk d H H') {v : V} (h : Oth K H v) (hd : DeckAt H d) : Oth K H' v := by
  cases h with
  | non => exact .non
  | bl b => exact .bl b
  | int i => exact .int i
  | @lst a xs h =>
    by_cases e : a = d
    · obtain ⟨x, y, z, hk⟩ := k.deck
      rw [e]; exact .lst hk
    · exact .lst (k.keep _ _ h e)
  | @dic a kvs h =>
    by_cases e : a = d
    · obtain ⟨x, y, z, hk⟩ := hd
      rw [e, hk] at h; cases h
    · exact .dic (k.keep _ _ h e)
theorem Oth.kp {K : PySem.W.Frag} {H H' : Hp} (k : Kp H H') {v : V} (h : Oth K H v) : Oth K H' v := by
  cases h with
  | non => exact .non
  | bl b => exact .bl b
  | int i => exact .int i
  | lst h => exact .lst (k _ _ h)
  | dic h => exact .dic (k _ _ h)
theorem Nt.kp {K : PySem.W.Frag} {H H' : Hp} (k : Kp H H') {v : V} (h : Nt K H v) : Nt K H' v := by
  cases h with
  | oth h => exact .oth (h.kp k)
  | tup h => exact .tup (Tk.kp k _ _ h)
theorem Nt.dk {K : PySem.W.Frag} {H H' : Hp} {d : Addr} (k : Dk d H H') {v : V} (h : Nt K H v) (hd : DeckAt H d) : Nt K H' v := by
  cases h with
  | oth h => exact .oth (h.dk k hd)
  | tup h => exact .tup (k.tk hd _ _ h)
theorem ty_tup {K : PySem.W.Frag} {H : Hp} {a : Addr} {xs : List V} (h : SqT K H a xs) : TyX K H (.ref a) (.type "tuple") := by
  rcases h with (h | ⟨o, h⟩) | ⟨o, its, n, h, c, _⟩
  · exact .base (.tup h)
  · exact .fTuple h
  · exact .kTuple h c
theorem Oth.ty {K : PySem.W.Frag} {H : Hp} {v : V} (h : Oth K H v) : ∃ t, TyX K H v (.type t) ∧ kitB t "str" = some false ∧ kitB t "tuple" = some false := by
  cases h with
  | non => exact ⟨"NoneType", .base .non, by decide +kernel, by decide +kernel⟩
  | bl b => exact ⟨"bool", .base (.bl b), by decide +kernel, by decide +kernel⟩
  | int i => exact ⟨"int", .base (.int i), by decide +kernel, by decide +kernel⟩
  | lst h => exact ⟨"list", .base (.lst h), by decide +kernel, by decide +kernel⟩
  | dic h => exact ⟨"dict", .base (.dK h), by decide +kernel, by decide +kernel⟩
theorem Nt.noStr {K : PySem.W.Frag} {H : Hp} {v : V} (h : Nt K H v) : NoStr K H v := by
  cases h with
  | oth h => obtain ⟨t, a, b, _⟩ := h.ty; exact ⟨t, a, b⟩
  | tup h => exact ⟨"tuple", ty_tup h, by decide +kernel⟩
theorem o_isiTO {K : PySem.W.Frag} {H : Hp} {Q : VK} {v : V} (h : Oth K H v) (q : Q (.bl false) H) : rIsiB K "tuple" [v, .ty "tuple"] H Q := by
  obtain ⟨t, a, _, b⟩ := h.ty
  exact ⟨_, t, false, rfl, a, b, q⟩
theorem o_isiTS {K : PySem.W.Frag} {H : Hp} {Q : VK} {z : Str} (q : Q (.bl false) H) : rIsiB K "tuple" [.str z, .ty "tuple"] H Q := ⟨_, "str", false, rfl, .base (.str z), by decide +kernel, q⟩
section
variable {X : Cx} {pins : List (Addr × Obj)} {σ : L2.St} {H : Hp} {s : Shared} {k : Nat}
/-- a text is no other value -/
theorem eq_str_nt {A : Around} (I : Inv X pins σ H s) {x : V} {v : Value} (hx : Nt X.K H x) (rx : RelV x v) (b : Str) (u : Tok) (hu : A.units < cLine) : EqAt A s (.str b u) v false := by
  cases hx with
  | oth h => cases h with
    | non => cases rx; exact EqAt.str_none b u
    | bl c => cases rx; exact EqAt.str_bool b u c
    | int i => obtain ⟨t, rfl⟩ := rx; exact EqAt.str_int b u i t
    | @lst a xs h =>
      cases rx
      obtain ⟨its, rv, pl, _⟩ := I.list (SqL.of h)
      exact EqAt.str_list b u pl.isList hu
    | @dic a kvs h =>
      cases rx
      obtain ⟨_, _, vs, _, o, es, ep, eo, ex, ed, _⟩ := dk_of I.hok h
      exact eq_str_dict b u eo ex ed hu
  | @tup a xs h =>
    cases rx
    obtain ⟨its, rv, pl, _⟩ := I.tuple h
    exact EqAt.str_tuple b u pl hu
abbrev rInX (K : PySem.W.Frag) (neg : Bool) : R2 := fun x y H Q => ∃ (p : Addr) (zs : List Str), y = .ref p ∧ SqT K H p (zs.map V.str) ∧ ((∃ z, x = .str z ∧ Q (.bl (neg != decide (z ∈ zs))) H) ∨ (Nt K H x ∧ Q (.bl neg) H))
theorem nt_all {A : Around} (I : Inv X pins σ H s) {x : V} {v : Value} (hx : Nt X.K H x) (rx : RelV x v) (hu : A.units < cLine) : ∀ {zs : List Str} {us : List Value}, Vals (zs.map V.str) us → ∀ u ∈ us, EqAt A s u v false
  | [], _, .nil => fun _ h => by cases h
  | z :: zs, _, .cons r t => fun u hm => by
    rcases List.mem_cons.mp hm with e | hm
    · obtain ⟨t0, e2⟩ := r
      rw [e, e2]
      exact eq_str_nt I hx rx z t0 hu
    · exact nt_all I hx rx hu t u hm
theorem op_notInX (hr : Room k X.A) : OpR X (compareOp .NotIn) (rInX X.K true) := by
  intro pins s σ H x y v u Q I rx ry h
  obtain ⟨p, zs, rfl, hp, h⟩ := h
  rcases h with ⟨z, rfl, q⟩ | ⟨hx, q⟩
  · refine op_notIn_seq pins s σ H _ _ v u Q I rx ry ⟨p, _, rfl, .inr hp, rfl, flat_strs zs, ?_⟩
    simp only [if_true]
    rw [inV_str]; simpa using q
  · cases ry
    obtain ⟨its, rv, pl, _⟩ := I.tuple hp
    refine SeqAt.notIn_tupleAt (fun _ => false) pl (fun w hw => nt_all I hx rx (by have := hr.un; rw [Around.in1_units]; omega) rv w (by simpa using hw)) ⟨.bl _, H, I, rfl, ?_⟩
    have : (its.toArray.any fun _ => false) = false := by simp
    rw [this]; exact q
/-- x == y, y empty -/
abbrev rEqE (K : PySem.W.Frag) (neg : Bool) : R2 := fun x y H Q => ∃ (a b : Addr) (xs : List V), x = .ref a ∧ y = .ref b ∧ ((SqL K H a xs ∧ SqL K H b []) ∨ (neg = false ∧ SqT K H a xs ∧ SqT K H b [])) ∧ Q (.bl (neg != xs.isEmpty)) H
theorem op_eqE (hr : Room k X.A) : OpR X (compareOp .Eq) (rEqE X.K false) := by
  intro pins s σ H x y v u Q I rx ry h
  obtain ⟨a, b, xs, rfl, rfl, h, q⟩ := h
  cases rx
  cases ry
  have hu : X.A.units < cLine := by have := hr.un; omega
  rcases h with ⟨h1, h2⟩ | ⟨_, h1, h2⟩
  · obtain ⟨its, rv, p1, _⟩ := I.list h1
    obtain ⟨its2, rv2, p2, _⟩ := I.list h2
    cases rv2
    cases rv with
    | nil => exact SeqAt.eq_listAt (e := fun _ => true) p1.isList p2.isList rfl hu (fun j h1 _ => absurd h1 (by simp)) ⟨.bl _, H, I, rfl, by simpa using q⟩
    | cons r t => exact SeqAt.eq_list_lengthsAt p1.isList p2.isList (by simp) hu ⟨.bl _, H, I, rfl, by simpa using q⟩
  · obtain ⟨its, rv, p1, _⟩ := I.tuple h1
    obtain ⟨its2, rv2, p2, _⟩ := I.tuple h2
    cases rv2
    refine SeqAt.eq_tupleAt (e := fun _ => true) p1 p2 hu (fun j _ h1 => absurd h1 (by simp)) ⟨.bl _, H, I, rfl, ?_⟩
    cases rv with
    | nil => simpa using q
    | cons r t => simpa using q
theorem op_neE (hr : Room k X.A) : OpR X (compareOp .NotEq) (rEqE X.K true) := by
  intro pins s σ H x y v u Q I rx ry h
  obtain ⟨a, b, xs, rfl, rfl, h, q⟩ := h
  have hu : X.A.units < cLine := by have := hr.un; omega
  rcases h with ⟨h1, h2⟩ | ⟨e, _⟩
  · by_cases hx : xs = []
    · subst hx
      refine op_neB hr pins s σ H _ _ v u Q I rx ry ⟨_, _, .lst h1 .nil, .lst h2 .nil, rfl, rfl, by simp [PyData.depth, PyData.depthAll], by
        have e : PyData.eqv (.list []) (.list []) = true := by simp [PyData.eqv, PyData.eqvAll]
        rw [e]; simpa using q⟩
    · cases rx
      cases ry
      obtain ⟨its, rv, p1, _⟩ := I.list h1
      obtain ⟨its2, rv2, p2, _⟩ := I.list h2
      cases rv2
      obtain ⟨⟨cls, dd, data, sl⟩, ho, hc, n, hd⟩ := id p1.isList
      obtain ⟨⟨cls2, dd2, data2, sl2⟩, ho2, hc2, n2, hd2⟩ := id p2.isList
      simp only at hc hd hc2 hd2
      subst hc hd hc2 hd2
      have hsz : (its.toArray.size != (#[] : Array Value).size) = true := by
        cases rv with
        | nil => exact absurd rfl hx
        | cons r t => simp
      refine richCompare_meets_room (op := .NotEq) ⟨_, ho, rfl⟩ ⟨_, ho2, rfl⟩ F.slot_list_ne F.entry_list_ne (F.args_list_ne_2 _ _) (SeqAt.list_ne_lengthsAt a b its.toArray #[] n n2 dd dd2 sl sl2 hsz)
        ⟨ho, ho2, (fun x => nomatch x), ⟨.bl _, H, I, rfl, ?_⟩⟩ hu
      have : xs.isEmpty = false := by cases xs with
        | nil => exact absurd rfl hx
        | cons _ _ => rfl
      rw [this] at q; exact q
  · cases e
end
end Tw
set_option Elab.async false
set_option linter.all false
set_option maxRecDepth 100000
set_option maxHeartbeats 4000000
/-! The plain layer: values without a heap, a state without a heap, and what binds both to the readings. -/
namespace Tw
open PySem PySem.Spec PyProof.Rows L2
/-- a plain value -/
inductive PV where
  | non | bl (b : Bool) | int (i : Int) | str (x : Str) | tup (xs : List PV) | lst (xs : List PV) | dic (kvs : List (Key × PV)) | deck
mutual
/-- the value v stands for x; lists and dicts lie in F and are not changed -/
inductive Rep (K : PySem.W.Frag) (dk : Option Addr) (F : Addr → Prop) (H : Hp) : V → PV → Prop where
  | non : Rep K dk F H .non .non
  | bl (b : Bool) : Rep K dk F H (.bl b) (.bl b)
  | int (i : Int) : Rep K dk F H (.int i) (.int i)
  | str (x : Str) : Rep K dk F H (.str x) (.str x)
  | tup {a : Addr} {vs : List V} {xs : List PV} : SqT K H a vs → RepL K dk F H vs xs → Rep K dk F H (.ref a) (.tup xs)
  | lst {a : Addr} {vs : List V} {xs : List PV} : F a → H a = some (.lst vs) → RepL K dk F H vs xs → Rep K dk F H (.ref a) (.lst xs)
  | dic {a : Addr} {vs : List (Key × V)} {xs : List (Key × PV)} : F a → H a = some (.dK vs) → RepK K dk F H vs xs → Rep K dk F H (.ref a) (.dic xs)
  | deck {a : Addr} : dk = some a → Rep K dk F H (.ref a) .deck
inductive RepL (K : PySem.W.Frag) (dk : Option Addr) (F : Addr → Prop) (H : Hp) : List V → List PV → Prop where
  | nil : RepL K dk F H [] []
  | cons {v : V} {x : PV} {vs : List V} {xs : List PV} : Rep K dk F H v x → RepL K dk F H vs xs → RepL K dk F H (v :: vs) (x :: xs)
inductive RepK (K : PySem.W.Frag) (dk : Option Addr) (F : Addr → Prop) (H : Hp) : List (Key × V) → List (Key × PV) → Prop where
  | nil : RepK K dk F H [] []
  | cons {k : Key} {v : V} {x : PV} {vs : List (Key × V)} {xs : List (Key × PV)} : Rep K dk F H v x → RepK K dk F H vs xs → RepK K dk F H ((k, v) :: vs) ((k, x) :: xs)
end
/-- F grows, its things and the tuples stay -/
structure Grow (K : PySem.W.Frag) (F : Addr → Prop) (H : Hp) (F' : Addr → Prop) (H' : Hp) : Prop where
  sub : ∀ b, F b → F' b
  tup : Tk K H H'
  keep : ∀ b o, F b → H b = some o → H' b = some o
section
variable {K : PySem.W.Frag} {dk : Option Addr} {F F' F2 : Addr → Prop} {H H' H2 : Hp}
theorem Grow.refl : Grow K F H F H := ⟨fun _ h => h, Tk.refl, fun _ _ _ h => h⟩
theorem Grow.trans (a : Grow K F H F' H') (b : Grow K F' H' F2 H2) : Grow K F H F2 H2 := ⟨fun c h => b.sub c (a.sub c h), a.tup.trans b.tup, fun c o h e => b.keep c o (a.sub c h) (a.keep c o h e)⟩
mutual
theorem Rep.mono (g : Grow K F H F' H') : ∀ {v : V} {x : PV}, Rep K dk F H v x → Rep K dk F' H' v x
  | _, _, .non => .non
  | _, _, .bl b => .bl b
  | _, _, .int i => .int i
  | _, _, .str x => .str x
  | _, _, .tup s r => .tup (g.tup _ _ s) (RepL.mono g r)
  | _, _, .lst f e r => .lst (g.sub _ f) (g.keep _ _ f e) (RepL.mono g r)
  | _, _, .dic f e r => .dic (g.sub _ f) (g.keep _ _ f e) (RepK.mono g r)
  | _, _, .deck e => .deck e
theorem RepL.mono (g : Grow K F H F' H') : ∀ {vs : List V} {xs : List PV}, RepL K dk F H vs xs → RepL K dk F' H' vs xs
  | _, _, .nil => .nil
  | _, _, .cons r t => .cons (Rep.mono g r) (RepL.mono g t)
theorem RepK.mono (g : Grow K F H F' H') : ∀ {vs : List (Key × V)} {xs : List (Key × PV)}, RepK K dk F H vs xs → RepK K dk F' H' vs xs
  | _, _, .nil => .nil
  | _, _, .cons r t => .cons (Rep.mono g r) (RepK.mono g t)
end
theorem RepL.len {vs : List V} {xs : List PV} (r : RepL K dk F H vs xs) : vs.length = xs.length := by
  induction vs generalizing xs with
  | nil => cases r; rfl
  | cons v vs ih => cases r with | cons _ t => simp [ih t]
theorem RepL.app {vs ws : List V} {xs ys : List PV} (r : RepL K dk F H vs xs) (t : RepL K dk F H ws ys) : RepL K dk F H (vs ++ ws) (xs ++ ys) := by
  induction vs generalizing xs with
  | nil => cases r; exact t
  | cons v vs ih => cases r with | cons a b => exact .cons a (ih b)
theorem RepL.one {v : V} {x : PV} (r : Rep K dk F H v x) : RepL K dk F H [v] [x] := .cons r .nil
theorem RepL.get {vs : List V} {xs : List PV} {i : Nat} {v : V} (r : RepL K dk F H vs xs) (e : vs[i]? = some v) : ∃ x, xs[i]? = some x ∧ Rep K dk F H v x := by
  induction vs generalizing xs i with
  | nil => simp at e
  | cons w vs ih =>
    cases r with
    | cons a b =>
      cases i with
      | zero => simp at e; subst e; exact ⟨_, rfl, a⟩
      | succ i => simpa using ih b (by simpa using e)
theorem RepL.get2 {vs : List V} {xs : List PV} {i : Nat} {x : PV} (r : RepL K dk F H vs xs) (e : xs[i]? = some x) : ∃ v, vs[i]? = some v ∧ Rep K dk F H v x := by
  induction vs generalizing xs i with
  | nil => cases r; simp at e
  | cons w vs ih =>
    cases r with
    | cons a b =>
      cases i with
      | zero => simp at e; subst e; exact ⟨_, rfl, a⟩
      | succ i => simpa using ih b (by simpa using e)
theorem RepL.take {vs : List V} {xs : List PV} (r : RepL K dk F H vs xs) (n : Nat) : RepL K dk F H (vs.take n) (xs.take n) := by
  induction vs generalizing xs n with
  | nil => cases r; simp; exact .nil
  | cons w vs ih =>
    cases r with
    | cons a b =>
      cases n with
      | zero => exact .nil
      | succ n => exact .cons a (ih b n)
theorem RepL.drop {vs : List V} {xs : List PV} (r : RepL K dk F H vs xs) (n : Nat) : RepL K dk F H (vs.drop n) (xs.drop n) := by
  induction vs generalizing xs n with
  | nil => cases r; simp; exact .nil
  | cons w vs ih =>
    cases r with
    | cons a b =>
      cases n with
      | zero => exact .cons a b
      | succ n => exact ih b n
theorem RepL.rev {vs : List V} {xs : List PV} (r : RepL K dk F H vs xs) : RepL K dk F H vs.reverse xs.reverse := by
  induction vs generalizing xs with
  | nil => cases r; exact .nil
  | cons w vs ih =>
    cases r with
    | cons a b => rw [List.reverse_cons, List.reverse_cons]; exact (ih b).app (.one a)
theorem RepL.set {vs : List V} {xs : List PV} {v : V} {x : PV} (r : RepL K dk F H vs xs) (h : Rep K dk F H v x) (i : Nat) : RepL K dk F H (vs.set i v) (xs.set i x) := by
  induction vs generalizing xs i with
  | nil => cases r; exact .nil
  | cons w vs ih =>
    cases r with
    | cons a b =>
      cases i with
      | zero => exact .cons h b
      | succ i => exact .cons a (ih b i)
theorem RepL.erase {vs : List V} {xs : List PV} (r : RepL K dk F H vs xs) (i : Nat) : RepL K dk F H (vs.eraseIdx i) (xs.eraseIdx i) := by
  induction vs generalizing xs i with
  | nil => cases r; exact .nil
  | cons w vs ih =>
    cases r with
    | cons a b =>
      cases i with
      | zero => exact b
      | succ i => exact .cons a (ih b i)
theorem RepL.dropLast {vs : List V} {xs : List PV} (r : RepL K dk F H vs xs) : RepL K dk F H vs.dropLast xs.dropLast := by
  rw [List.dropLast_eq_take, List.dropLast_eq_take, r.len]; exact r.take _
end
/-- a slot of the plain state: nothing known, a value, a list or a dict of one's own -/
inductive Sl where
  | no | val (x : PV) | own (xs : List PV) | ownD (kvs : List (Key × PV)) | err (a : Addr) (d : Option Addr) (er : Addr × List (Str × PV))
abbrev Env := List Sl
inductive RepF (K : PySem.W.Frag) (dk : Option Addr) (F : Addr → Prop) (H : Hp) : List (Str × V) → List (Str × PV) → Prop where
  | nil : RepF K dk F H [] []
  | cons {k : Str} {v : V} {x : PV} {vs : List (Str × V)} {xs : List (Str × PV)} : Rep K dk F H v x → RepF K dk F H vs xs → RepF K dk F H ((k, v) :: vs) ((k, x) :: xs)
theorem RepF.mono {K : PySem.W.Frag} {dk : Option Addr} {F F' : Addr → Prop} {H H' : Hp} (g : Grow K F H F' H') {vs : List (Str × V)} {xs : List (Str × PV)} (r : RepF K dk F H vs xs) : RepF K dk F' H' vs xs := by
  induction r with
  | nil => exact .nil
  | cons a _ ih => exact .cons (a.mono g) ih
theorem RepF.get {K : PySem.W.Frag} {dk : Option Addr} {F : Addr → Prop} {H : Hp} {vs : List (Str × V)} {xs : List (Str × PV)} (r : RepF K dk F H vs xs) {k : Str} {x : PV} (e : xs.lookup k = some x) : ∃ v, vs.lookup k = some v ∧ Rep K dk F H v x := by
  induction r with
  | nil => cases e
  | @cons k' v x' vs xs a _ ih =>
    rw [List.lookup_cons] at e
    cases h : k == k' with
    | true => rw [h] at e; cases e; exact ⟨v, by rw [List.lookup_cons, h], a⟩
    | false =>
      rw [h] at e
      obtain ⟨v', e', r'⟩ := ih e
      exact ⟨v', by rw [List.lookup_cons, h]; exact e', r'⟩
/-- the error at hand: its dict is kept -/
def ErrAt (K : PySem.W.Frag) (dk : Option Addr) (F : Addr → Prop) (H : Hp) (d : Option Addr) (fs : List (Str × PV)) : Prop := (d = none ∧ fs = []) ∨ ∃ a fv, d = some a ∧ F a ∧ H a = some (.xd fv) ∧ RepF K dk F H fv fs
theorem ErrAt.mono {K : PySem.W.Frag} {dk : Option Addr} {F F' : Addr → Prop} {H H' : Hp} (g : Grow K F H F' H') {d : Option Addr} {fs : List (Str × PV)} (h : ErrAt K dk F H d fs) : ErrAt K dk F' H' d fs := by
  rcases h with h | ⟨a, fv, e, f, q, r⟩
  · exact .inl h
  · exact .inr ⟨a, fv, e, g.sub _ f, g.keep _ _ f q, r.mono g⟩
/-- what a slot holds -/
inductive SlAt (K : PySem.W.Frag) (dk : Option Addr) (F : Addr → Prop) (H : Hp) : Option V → Sl → Prop where
  | no (o : Option V) : SlAt K dk F H o .no
  | val {v : V} {x : PV} : Rep K dk F H v x → SlAt K dk F H (some v) (.val x)
  | own {a : Addr} {vs : List V} {xs : List PV} : H a = some (.lst vs) → RepL K dk F H vs xs → SlAt K dk F H (some (.ref a)) (.own xs)
  | ownD {a : Addr} {vs : List (Key × V)} {xs : List (Key × PV)} : H a = some (.dK vs) → RepK K dk F H vs xs → SlAt K dk F H (some (.ref a)) (.ownD xs)
  | err {a : Addr} {d : Option Addr} {er : Addr × List (Str × PV)} : ErrAt K dk F H d er.2 → SlAt K dk F H (some (.ref a)) (.err a d er)
def Sl.owns : Sl → Prop
  | .own _ => True
  | .ownD _ => True
  | _ => False
/-- the address a is that of an own list or dict in slot i -/
def OwnAt (σ : L2.St) (ρ : Env) (i : Nat) (a : Addr) : Prop := ∃ s, ρ[i]? = some s ∧ s.owns ∧ σ[i]? = some (some (.ref a))
/-- the heap since the entry (F0, H0) -/
structure St0 (K : PySem.W.Frag) (dk : Option Addr) (F0 : Addr → Prop) (H0 : Hp) (F : Addr → Prop) (H : Hp) : Prop where
  base : ∀ b o, H0 b = some o → dk ≠ some b → H b = some o
  fnew : ∀ b, F b → F0 b ∨ H0 b = none
  fall : ∀ b, F b → ∃ o, H b = some o
  f0 : ∀ b, F0 b → F b
  fdk : ∀ b, F b → dk ≠ some b
  deck : ∀ d, dk = some d → DeckAt H d
  deck0 : ∀ d, dk = some d → DeckAt H0 d
structure PInv (K : PySem.W.Frag) (dk : Option Addr) (F0 : Addr → Prop) (H0 : Hp) (F : Addr → Prop) (σ : L2.St) (H : Hp) (ρ : Env) : Prop where
  st : St0 K dk F0 H0 F H
  len : σ.length = ρ.length
  sl : ∀ (i : Nat) (s : Sl) (o : Option V), ρ[i]? = some s → σ[i]? = some o → SlAt K dk F H o s
  dis : ∀ (i j : Nat) (a : Addr), OwnAt σ ρ i a → OwnAt σ ρ j a → i = j
  fresh : ∀ (i : Nat) (a : Addr), OwnAt σ ρ i a → H0 a = none ∧ ¬ F a
/-- an error: its class, its fields -/
abbrev PErr := Addr × List (Str × PV)
/-- the dict of an error -/
def ErrD (H0 : Hp) (F : Addr → Prop) (H : Hp) (d : Option Addr) (fv : List (Str × V)) : Prop := (d = none ∧ fv = []) ∨ ∃ a, d = some a ∧ H a = some (.xd fv) ∧ H0 a = none ∧ ¬ F a
def ErrOk (K : PySem.W.Frag) (dk : Option Addr) (F0 : Addr → Prop) (H0 : Hp) (E : XK) (PE : PErr → Prop) : Prop :=
  ∀ C d fv fs F H, St0 K dk F0 H0 F H → RepF K dk F H fv fs → ErrD H0 F H d fv → PE (C, fs) → E (.ref C) d H
section
variable {K : PySem.W.Frag} {dk : Option Addr} {F0 F F' F2 : Addr → Prop} {H0 H H' H2 : Hp} {σ σ' : L2.St} {ρ ρ' : Env}
theorem OwnAt.same {i : Nat} {x y : Addr} (a : OwnAt σ ρ i x) (b : OwnAt σ ρ i y) : x = y := by
  obtain ⟨_, _, _, e⟩ := a
  obtain ⟨_, _, _, f⟩ := b
  rw [e] at f; cases f; rfl
theorem SlAt.mono (g : Grow K F H F' H') {o : Option V} {s : Sl} (h : SlAt K dk F H o s) (ho : ∀ a, s.owns → o = some (.ref a) → H' a = H a) : SlAt K dk F' H' o s := by
  cases h with
  | no => exact .no _
  | val r => exact .val (r.mono g)
  | own e r => exact .own (by rw [ho _ trivial rfl]; exact e) (r.mono g)
  | ownD e r => exact .ownD (by rw [ho _ trivial rfl]; exact e) (r.mono g)
  | err e => exact .err (e.mono g)
theorem St0.refl (hf : ∀ b, F b → ∃ o, H b = some o) (hd : ∀ b, F b → dk ≠ some b) (hk : ∀ d, dk = some d → DeckAt H d) : St0 K dk F H F H := ⟨fun _ _ h _ => h, fun _ h => .inl h, hf, fun _ h => h, hd, hk, hk⟩
theorem St0.grow (s : St0 K dk F0 H0 F H) : Grow K F0 H0 F H := by
  refine ⟨s.f0, fun a xs h => ?_, fun b o h e => s.base b o e (s.fdk b (s.f0 b h))⟩
  rcases h with h | h
  · rcases h with h | ⟨o, h⟩
    · refine .inl (.inl (s.base _ _ h fun e => ?_))
      obtain ⟨x, y, z, q⟩ := s.deck0 _ e
      rw [h] at q; cases q
    · refine .inl (.inr ⟨o, s.base _ _ h fun e => ?_⟩)
      obtain ⟨x, y, z, q⟩ := s.deck0 _ e
      rw [h] at q; cases q
  · exact .inr h
theorem St0.self (s : St0 K dk F0 H0 F H) : St0 K dk F H F H := .refl s.fall s.fdk s.deck
/-- a new thing is laid -/
theorem St0.new (s : St0 K dk F0 H0 F H) {p : Addr} {o : HO} (h : H p = none) : St0 K dk F0 H0 F (upd H p o) := by
  refine ⟨fun b u e n => ?_, s.fnew, fun b h => ?_, s.f0, s.fdk, fun d e => ?_, s.deck0⟩
  · have := s.base b u e n
    rw [upd_ne (ne_of_none this ‹H p = none›)]; exact this
  · obtain ⟨u, e⟩ := s.fall b h
    exact ⟨u, by rw [upd_ne (ne_of_none e ‹H p = none›)]; exact e⟩
  · obtain ⟨x, y, z, q⟩ := s.deck d e
    exact ⟨x, y, z, by rw [upd_ne (ne_of_none q h)]; exact q⟩
theorem St0.newF (s : St0 K dk F0 H0 F H) {p : Addr} {o : HO} (h : H p = none) : St0 K dk F0 H0 (fun b => F b ∨ b = p) (upd H p o) := by
  have n := s.new (o := o) h
  have hp0 : H0 p = none := by
    cases e : H0 p with
    | none => rfl
    | some u =>
      by_cases hd : dk = some p
      · obtain ⟨x, y, z, q⟩ := s.deck p hd
        rw [h] at q; cases q
      · have := s.base p u e hd
        rw [h] at this; cases this
  refine ⟨n.base, fun b hb => ?_, fun b hb => ?_, fun b hb => .inl (s.f0 b hb), fun b hb => ?_, n.deck, n.deck0⟩
  · rcases hb with hb | rfl
    · exact s.fnew b hb
    · exact .inr hp0
  · rcases hb with hb | rfl
    · exact n.fall b hb
    · exact ⟨o, upd_same⟩
  · rcases hb with hb | rfl
    · exact s.fdk b hb
    · intro e
      obtain ⟨x, y, z, q⟩ := s.deck _ e
      rw [h] at q; cases q
theorem St0.freshOf (s : St0 K dk F0 H0 F H) {p : Addr} (h : H p = none) : H0 p = none ∧ ¬ F p := by
  refine ⟨?_, fun hf => ?_⟩
  · cases e : H0 p with
    | none => rfl
    | some u =>
      by_cases hd : dk = some p
      · obtain ⟨x, y, z, q⟩ := s.deck p hd
        rw [h] at q; cases q
      · have := s.base p u e hd
        rw [h] at this; cases this
  · obtain ⟨u, e⟩ := s.fall p hf
    rw [h] at e; cases e
theorem Grow.new {p : Addr} {o : HO} (h : H p = none) : Grow K F H F (upd H p o) := by
  refine ⟨fun _ h => h, fun a xs q => ?_, fun b u _ e => by rw [upd_ne (ne_of_none e h)]; exact e⟩
  rcases q with q | q
  · rcases q with q | ⟨u, q⟩
    · exact .inl (.inl (by rw [upd_ne (ne_of_none q h)]; exact q))
    · exact .inl (.inr ⟨u, by rw [upd_ne (ne_of_none q h)]; exact q⟩)
  · exact .inr q
theorem Grow.newF {p : Addr} {o : HO} (h : H p = none) : Grow K F H (fun b => F b ∨ b = p) (upd H p o) := by
  have := Grow.new (K := K) (F := F) (o := o) h
  exact ⟨fun _ h => .inl h, this.tup, this.keep⟩
theorem PInv.ownNe (I : PInv K dk F0 H0 F σ H ρ) {i : Nat} {a : Addr} (o : OwnAt σ ρ i a) : ∃ u, H a = some u := by
  obtain ⟨s, hs, hw, e⟩ := o
  have := I.sl i s _ hs e
  cases this with
  | no => cases hw
  | val => cases hw
  | own e _ => exact ⟨_, e⟩
  | ownD e _ => exact ⟨_, e⟩
  | err e => cases hw
/-- a new thing that is no slot's own -/
theorem PInv.newF (I : PInv K dk F0 H0 F σ H ρ) {p : Addr} {o : HO} (h : H p = none) : PInv K dk F0 H0 (fun b => F b ∨ b = p) σ (upd H p o) ρ := by
  refine ⟨I.st.newF h, I.len, fun i s u hs hu => (I.sl i s u hs hu).mono (Grow.newF h) fun a w e => ?_, I.dis, fun i a ho => ?_⟩
  · obtain ⟨x, q⟩ := I.ownNe ⟨s, hs, w, by rw [hu, e]⟩
    exact upd_ne (ne_of_none q h)
  · obtain ⟨x, q⟩ := I.ownNe ho
    obtain ⟨h1, h2⟩ := I.fresh i a ho
    exact ⟨h1, fun z => z.elim h2 fun z => ne_of_none q h z⟩
theorem PInv.new (I : PInv K dk F0 H0 F σ H ρ) {p : Addr} {o : HO} (h : H p = none) : PInv K dk F0 H0 F σ (upd H p o) ρ := by
  refine ⟨I.st.new h, I.len, fun i s u hs hu => (I.sl i s u hs hu).mono (Grow.new h) fun a w e => ?_, I.dis, I.fresh⟩
  obtain ⟨x, q⟩ := I.ownNe ⟨s, hs, w, by rw [hu, e]⟩
  exact upd_ne (ne_of_none q h)
/-- an own slot's list is changed -/
theorem PInv.chg (I : PInv K dk F0 H0 F σ H ρ) {i : Nat} {a : Addr} (o : OwnAt σ ρ i a) {u : HO} (hk : ∀ xs, H a ≠ some (.tup xs)) (hz : ∀ z xs, H a ≠ some (.frz z xs)) : Grow K F H F (upd H a u) ∧ St0 K dk F0 H0 F (upd H a u) := by
  obtain ⟨f1, f2⟩ := I.fresh i a o
  have nd : dk ≠ some a := fun e => by
    obtain ⟨x, y, z, q⟩ := I.st.deck0 a e
    rw [f1] at q; cases q
  have ne1 : ∀ b, F b → b ≠ a := fun b h z => f2 (z ▸ h)
  have ne2 : ∀ b xs, H b = some (.tup xs) → b ≠ a := fun b xs q z => hk xs (z ▸ q)
  have ne3 : ∀ b z xs, H b = some (.frz z xs) → b ≠ a := fun b y xs q z => hz y xs (z ▸ q)
  have ne4 : ∀ b, dk = some b → b ≠ a := fun b h z => nd (z ▸ h)
  refine ⟨⟨fun _ h => h, fun b xs q => ?_, fun b v h e => by rw [upd_ne (ne1 _ h)]; exact e⟩, ⟨fun b v e n => ?_, I.st.fnew, fun b h => ?_, I.st.f0, I.st.fdk, fun d e => ?_, I.st.deck0⟩⟩
  · rcases q with q | q
    · rcases q with q | ⟨u, q⟩
      · exact .inl (.inl (by rw [upd_ne (ne2 _ _ q)]; exact q))
      · exact .inl (.inr ⟨u, by rw [upd_ne (ne3 _ _ _ q)]; exact q⟩)
    · exact .inr q
  · rw [upd_ne fun z => by rw [z, f1] at e; cases e]; exact I.st.base b v e n
  · obtain ⟨v, e⟩ := I.st.fall b h
    exact ⟨v, by rw [upd_ne (ne1 _ h)]; exact e⟩
  · obtain ⟨x, y, z, q⟩ := I.st.deck d e
    exact ⟨x, y, z, by rw [upd_ne (ne4 _ e)]; exact q⟩
theorem getE_set {α : Type} {l : List α} {i j : Nat} {v : α} : (l.set i v)[j]? = if i = j then (if j < l.length then some v else none) else l[j]? := by
  rw [List.getElem?_set]
  by_cases h : i = j
  · subst h; rfl
  · rw [if_neg h, if_neg h]
/-- a slot is set to a value -/
theorem PInv.setV (I : PInv K dk F0 H0 F σ H ρ) {i : Nat} {v : V} {x : PV} (r : Rep K dk F H v x) : PInv K dk F0 H0 F (σ.set i (some v)) H (ρ.set i (.val x)) := by
  have hl : ∀ j a, OwnAt (σ.set i (some v)) (ρ.set i (.val x)) j a → OwnAt σ ρ j a := by
    rintro j a ⟨s, hs, hw, e⟩
    rw [getE_set] at hs e
    by_cases hij : i = j
    · rw [if_pos hij] at hs
      split at hs
      · cases hs; cases hw
      · cases hs
    · rw [if_neg hij] at hs e
      exact ⟨s, hs, hw, e⟩
  refine ⟨I.st, by simp [I.len], fun j s o hs ho => ?_, fun j k a h1 h2 => I.dis j k a (hl j a h1) (hl k a h2), fun j a h => I.fresh j a (hl j a h)⟩
  rw [getE_set] at hs ho
  by_cases hij : i = j
  · rw [if_pos hij] at hs ho
    split at hs
    · cases hs
      split at ho
      · cases ho; exact .val r
      · cases ho
    · cases hs
  · rw [if_neg hij] at hs ho
    exact I.sl j s o hs ho
/-- a slot is forgotten -/
theorem PInv.setN (I : PInv K dk F0 H0 F σ H ρ) {i : Nat} {o : Option V} : PInv K dk F0 H0 F (σ.set i o) H (ρ.set i .no) := by
  have hl : ∀ j a, OwnAt (σ.set i o) (ρ.set i .no) j a → OwnAt σ ρ j a := by
    rintro j a ⟨s, hs, hw, e⟩
    rw [getE_set] at hs e
    by_cases hij : i = j
    · rw [if_pos hij] at hs
      split at hs
      · cases hs; cases hw
      · cases hs
    · rw [if_neg hij] at hs e
      exact ⟨s, hs, hw, e⟩
  refine ⟨I.st, by simp [I.len], fun j s o hs ho => ?_, fun j k a h1 h2 => I.dis j k a (hl j a h1) (hl k a h2), fun j a h => I.fresh j a (hl j a h)⟩
  rw [getE_set] at hs ho
  by_cases hij : i = j
  · rw [if_pos hij] at hs ho
    split at hs
    · cases hs; exact .no _
    · cases hs
  · rw [if_neg hij] at hs ho
    exact I.sl j s _ hs ho
/-- a slot gets a thing of its own -/
theorem PInv.setO (I : PInv K dk F0 H0 F σ H ρ) {i : Nat} {a : Addr} {s : Sl} (hs : SlAt K dk F H (some (.ref a)) s) (f : H0 a = none ∧ ¬ F a) (hn : ∀ j, OwnAt σ ρ j a → j = i) : PInv K dk F0 H0 F (σ.set i (some (.ref a))) H (ρ.set i s) := by
  have hl : ∀ j b, OwnAt (σ.set i (some (.ref a))) (ρ.set i s) j b → (j = i ∧ b = a) ∨ (j ≠ i ∧ OwnAt σ ρ j b) := by
    rintro j b ⟨t, ht, hw, e⟩
    rw [getE_set] at ht e
    by_cases hij : i = j
    · rw [if_pos hij] at ht e
      split at e
      · cases e; exact .inl ⟨hij.symm, rfl⟩
      · cases e
    · rw [if_neg hij] at ht e
      exact .inr ⟨fun z => hij z.symm, t, ht, hw, e⟩
  refine ⟨I.st, by simp [I.len], fun j t o ht ho => ?_, fun j k b h1 h2 => ?_, fun j b h => ?_⟩
  · rw [getE_set] at ht ho
    by_cases hij : i = j
    · rw [if_pos hij] at ht ho
      split at ht
      · cases ht
        split at ho
        · cases ho; exact hs
        · cases ho
      · cases ht
    · rw [if_neg hij] at ht ho
      exact I.sl j t _ ht ho
  · rcases hl j b h1 with ⟨e1, e2⟩ | ⟨n1, o1⟩
    · rcases hl k b h2 with ⟨e3, e4⟩ | ⟨n2, o2⟩
      · rw [e1, e3]
      · exact absurd (hn k (e2 ▸ o2)) n2
    · rcases hl k b h2 with ⟨e3, e4⟩ | ⟨n2, o2⟩
      · exact absurd (hn j (e4 ▸ o1)) n1
      · exact I.dis j k b o1 o2
  · rcases hl j b h with ⟨_, rfl⟩ | ⟨_, o1⟩
    · exact f
    · exact I.fresh j b o1
/-- an own slot i is changed: its list at a becomes u, that stands for s -/
theorem PInv.chgO (I : PInv K dk F0 H0 F σ H ρ) {i : Nat} {a : Addr} (o : OwnAt σ ρ i a) {u : HO} {s : Sl} (hk : ∀ xs, H a ≠ some (.tup xs)) (hz : ∀ z xs, H a ≠ some (.frz z xs)) (hs : SlAt K dk F (upd H a u) (some (.ref a)) s) :
    PInv K dk F0 H0 F σ (upd H a u) (ρ.set i s) := by
  obtain ⟨g, st⟩ := I.chg o (u := u) hk hz
  have hi : i < ρ.length := by
    obtain ⟨t, ht, _, _⟩ := o
    exact (List.getElem?_eq_some_iff.mp ht).1
  have hl : ∀ j b, OwnAt σ (ρ.set i s) j b → OwnAt σ ρ j b := by
    rintro j b ⟨t, ht, hw, e⟩
    by_cases hij : i = j
    · subst hij
      obtain ⟨s1, h1, h2, h3⟩ := o
      rw [h3] at e; cases e
      exact ⟨s1, h1, h2, h3⟩
    · rw [getE_set, if_neg hij] at ht
      exact ⟨t, ht, hw, e⟩
  refine ⟨st, by simp [I.len], fun j t q ht hq => ?_, fun j k b h1 h2 => I.dis j k b (hl j b h1) (hl k b h2), fun j b h => I.fresh j b (hl j b h)⟩
  rw [getE_set] at ht
  by_cases hij : i = j
  · rw [if_pos hij, if_pos (hij ▸ hi)] at ht
    cases ht
    obtain ⟨_, _, _, h3⟩ := o
    rw [← hij, h3] at hq; cases hq
    exact hs
  · rw [if_neg hij] at ht
    refine (I.sl j t q ht hq).mono g fun b w e => ?_
    refine upd_ne fun z => hij (I.dis i j a o ⟨t, ht, w, by rw [hq, e, z]⟩)
end
end Tw
set_option Elab.async false
set_option linter.all false
set_option maxRecDepth 100000
set_option maxHeartbeats 4000000
/-! The plain layer: readings bound to plain ones. -/
namespace Tw
open PySem PySem.Spec PyProof.Rows L2
abbrev EK := L2.St → XK
abbrev PEK := Env → PErr → Prop
/-- what is done with an error, from (F1, H1) on -/
def ErrS (K : PySem.W.Frag) (dk : Option Addr) (F0 : Addr → Prop) (H0 : Hp) (F1 : Addr → Prop) (H1 : Hp) (E : EK) (PE : PEK) : Prop :=
  ∀ F σ H ρ C d fv fs, Grow K F1 H1 F H → PInv K dk F0 H0 F σ H ρ → RepF K dk F H fv fs → ErrD H0 F H d fv → PE ρ (C, fs) → E σ (.ref C) d H
structure PEnds where
  nx : Env → Prop
  rt : PV → Prop
  bk : Env → Prop := fun _ => False
  ct : Env → Prop := fun _ => False
structure EndsOk (K : PySem.W.Frag) (dk : Option Addr) (F0 : Addr → Prop) (H0 : Hp) (F1 : Addr → Prop) (H1 : Hp) (D : Ends) (PD : PEnds) : Prop where
  nx : ∀ F σ H ρ, Grow K F1 H1 F H → PInv K dk F0 H0 F σ H ρ → PD.nx ρ → D.nx σ H
  rt : ∀ F H v x, St0 K dk F0 H0 F H → Rep K dk F H v x → PD.rt x → D.rt v H
  bk : ∀ F σ H ρ, Grow K F1 H1 F H → PInv K dk F0 H0 F σ H ρ → PD.bk ρ → D.bk σ H
  ct : ∀ F σ H ρ, Grow K F1 H1 F H → PInv K dk F0 H0 F σ H ρ → PD.ct ρ → D.ct σ H
section
variable {K : PySem.W.Frag} {dk : Option Addr} {F0 F F1 F2 : Addr → Prop} {H0 H H1 H2 : Hp} {E : EK} {PE : PEK} {D : Ends} {PD : PEnds}
theorem ErrS.grow (g : Grow K F1 H1 F2 H2) (e : ErrS K dk F0 H0 F1 H1 E PE) : ErrS K dk F0 H0 F2 H2 E PE := fun F σ H ρ C d fv fs g' => e F σ H ρ C d fv fs (g.trans g')
theorem EndsOk.grow (g : Grow K F1 H1 F2 H2) (e : EndsOk K dk F0 H0 F1 H1 D PD) : EndsOk K dk F0 H0 F2 H2 D PD :=
  ⟨fun F σ H ρ g' => e.nx F σ H ρ (g.trans g'), e.rt, fun F σ H ρ g' => e.bk F σ H ρ (g.trans g'), fun F σ H ρ g' => e.ct F σ H ρ (g.trans g')⟩
theorem EndsOk.withNx (e : EndsOk K dk F0 H0 F1 H1 D PD) {N : L2.St → Hp → Prop} {PN : Env → Prop} (h : ∀ F σ H ρ, Grow K F1 H1 F H → PInv K dk F0 H0 F σ H ρ → PN ρ → N σ H) : EndsOk K dk F0 H0 F1 H1 { D with nx := N } { PD with nx := PN } := ⟨h, e.rt, e.bk, e.ct⟩
end
/-- an expression -/
structure SE (K : PySem.W.Frag) where
  rd : EK → TE
  wp : PEK → Env → (PV → Env → Prop) → Prop
  ok : ∀ {dk F0 H0 F σ H ρ E PE P Q}, PInv K dk F0 H0 F σ H ρ → ErrS K dk F0 H0 F H E PE → wp PE ρ P →
    (∀ v H' F' x ρ', Grow K F H F' H' → PInv K dk F0 H0 F' σ H' ρ' → Rep K dk F' H' v x → P x ρ' → Q v H') → rd E σ H Q
/-- a test -/
structure ST (K : PySem.W.Frag) where
  rd : EK → TT
  wp : PEK → Env → (Bool → Env → Prop) → Prop
  ok : ∀ {dk F0 H0 F σ H ρ E PE P Q}, PInv K dk F0 H0 F σ H ρ → ErrS K dk F0 H0 F H E PE → wp PE ρ P →
    (∀ b H' F' ρ', Grow K F H F' H' → PInv K dk F0 H0 F' σ H' ρ' → P b ρ' → Q b H') → rd E σ H Q
/-- arguments -/
structure SA (K : PySem.W.Frag) where
  rd : EK → TA
  wp : PEK → Env → (List PV → Env → Prop) → Prop
  ok : ∀ {dk F0 H0 F σ H ρ E PE P Q}, PInv K dk F0 H0 F σ H ρ → ErrS K dk F0 H0 F H E PE → wp PE ρ P →
    (∀ vs H' F' xs ρ', Grow K F H F' H' → PInv K dk F0 H0 F' σ H' ρ' → RepL K dk F' H' vs xs → P xs ρ' → Q vs H') → rd E σ H Q
/-- a statement -/
structure SS (K : PySem.W.Frag) where
  rd : EK → TS
  wp : PEK → PEnds → Env → Prop
  ok : ∀ {dk F0 H0 F σ H ρ E PE D PD}, PInv K dk F0 H0 F σ H ρ → ErrS K dk F0 H0 F H E PE → EndsOk K dk F0 H0 F H D PD → wp PE PD ρ → rd E D σ H
/-- a target -/
structure SG (K : PySem.W.Frag) where
  rd : TG
  sl : List Nat
  wp : PV → Env → (Env → Prop) → Prop
  ok : ∀ {dk F0 H0 F σ H ρ v x P Q}, PInv K dk F0 H0 F σ H ρ → Rep K dk F H v x → wp x ρ P → (∀ σ' ρ', σ'.length = σ.length → (∀ j, j ∉ sl → σ'[j]? = σ[j]?) → PInv K dk F0 H0 F σ' H ρ' → P ρ' → Q σ' H) → rd v σ H Q
/-- an operation of two values -/
structure SO (K : PySem.W.Frag) where
  rd : R2
  wp : PV → PV → (PV → Prop) → Prop
  ok : ∀ {dk F0 H0 F σ H ρ v w x y P Q}, PInv K dk F0 H0 F σ H ρ → Rep K dk F H v x → Rep K dk F H w y → wp x y P →
    (∀ z H' F' u, Grow K F H F' H' → PInv K dk F0 H0 F' σ H' ρ → Rep K dk F' H' z u → P u → Q z H') → rd v w H Q
/-- an operation of one value -/
structure SU (K : PySem.W.Frag) where
  rd : V → Hp → VK → Prop
  wp : PV → (PV → Prop) → Prop
  ok : ∀ {dk F0 H0 F σ H ρ v x P Q}, PInv K dk F0 H0 F σ H ρ → Rep K dk F H v x → wp x P →
    (∀ z H' F' u, Grow K F H F' H' → PInv K dk F0 H0 F' σ H' ρ → Rep K dk F' H' z u → P u → Q z H') → rd v H Q
/-- a built-in function -/
structure SB (K : PySem.W.Frag) where
  rd : List V → Hp → VK → Prop
  wp : List PV → (PV → Prop) → Prop
  ok : ∀ {dk F0 H0 F σ H ρ vs xs P Q}, PInv K dk F0 H0 F σ H ρ → RepL K dk F H vs xs → wp xs P →
    (∀ z H' F' u, Grow K F H F' H' → PInv K dk F0 H0 F' σ H' ρ → Rep K dk F' H' z u → P u → Q z H') → rd vs H Q
section
variable {K : PySem.W.Frag} {dk : Option Addr} {F0 F F1 F2 : Addr → Prop} {H0 H H1 H2 : Hp} {E : EK} {PE : PEK} {D : Ends} {PD : PEnds} {σ : L2.St} {ρ : Env}
theorem PInv.slot (I : PInv K dk F0 H0 F σ H ρ) {i : Nat} {s : Sl} (h : ρ[i]? = some s) : ∃ o, σ[i]? = some o ∧ SlAt K dk F H o s := by
  have hi := (List.getElem?_eq_some_iff.mp h).1
  rw [← I.len] at hi
  exact ⟨σ[i], List.getElem?_eq_getElem hi, I.sl i s _ h (List.getElem?_eq_getElem hi)⟩
/-- an own list, an own dict is given away: from now on it is a value -/
theorem PInv.frz (I : PInv K dk F0 H0 F σ H ρ) {i : Nat} {a : Addr} {x : PV} (o : OwnAt σ ρ i a) (r : Rep K dk (fun b => F b ∨ b = a) H (.ref a) x) :
    PInv K dk F0 H0 (fun b => F b ∨ b = a) σ H (ρ.set i (.val x)) ∧ Grow K F H (fun b => F b ∨ b = a) H := by
  have g : Grow K F H (fun b => F b ∨ b = a) H := ⟨fun _ h => .inl h, Tk.refl, fun _ _ _ h => h⟩
  obtain ⟨f1, f2⟩ := I.fresh i a o
  obtain ⟨u, hu⟩ := I.ownNe o
  have hl : ∀ j b, OwnAt σ (ρ.set i (.val x)) j b → i ≠ j ∧ OwnAt σ ρ j b := by
    rintro j b ⟨s, hs, hw, e⟩
    rw [getE_set] at hs
    by_cases hij : i = j
    · rw [if_pos hij] at hs
      split at hs
      · cases hs; cases hw
      · cases hs
    · rw [if_neg hij] at hs
      exact ⟨hij, s, hs, hw, e⟩
  refine ⟨⟨⟨I.st.base, fun b hb => ?_, fun b hb => ?_, fun b hb => .inl (I.st.f0 b hb), fun b hb => ?_, I.st.deck, I.st.deck0⟩, by simp [I.len], fun j s q hs hq => ?_, fun j k b h1 h2 => I.dis j k b (hl j b h1).2 (hl k b h2).2, fun j b h => ?_⟩, g⟩
  · rcases hb with hb | rfl
    · exact I.st.fnew b hb
    · exact .inr f1
  · rcases hb with hb | rfl
    · exact I.st.fall b hb
    · exact ⟨u, hu⟩
  · rcases hb with hb | rfl
    · exact I.st.fdk b hb
    · intro e
      obtain ⟨p, q, r, h⟩ := I.st.deck0 _ e
      rw [f1] at h; cases h
  · rw [getE_set] at hs
    by_cases hij : i = j
    · rw [if_pos hij] at hs
      split at hs
      · cases hs
        obtain ⟨_, _, _, e⟩ := o
        rw [← hij, e] at hq; cases hq
        exact .val r
      · cases hs
    · rw [if_neg hij] at hs
      exact (I.sl j s q hs hq).mono g fun _ _ _ => rfl
  · obtain ⟨hij, o2⟩ := hl j b h
    obtain ⟨h1, h2⟩ := I.fresh j b o2
    refine ⟨h1, fun z => z.elim h2 fun z => hij (I.dis i j a o (z ▸ o2))⟩
end
/-- what the name of slot i yields: an own thing is given away -/
def vwp (i : Nat) (ρ : Env) (P : PV → Env → Prop) : Prop :=
  match ρ[i]? with
  | some (.val x) => P x ρ
  | some (.own xs) => P (.lst xs) (ρ.set i (.val (.lst xs)))
  | some (.ownD xs) => P (.dic xs) (ρ.set i (.val (.dic xs)))
  | _ => False
namespace SE
variable {K : PySem.W.Frag}
def var (i : Nat) : SE K where
  rd := fun _ => tVar i
  wp := fun _ ρ P => vwp i ρ P
  ok := by
    intro dk F0 H0 F σ H ρ E PE P Q I _ h q
    unfold vwp at h
    split at h
    · rename_i x hx
      obtain ⟨o, ho, s⟩ := I.slot hx
      cases s with
      | val r => exact ⟨_, ho, q _ _ _ _ _ Grow.refl I r h⟩
    · rename_i xs hx
      obtain ⟨o, ho, s⟩ := I.slot hx
      cases s with
      | own e r =>
        rename_i a _
        have g : Grow K F H (fun b => F b ∨ b = a) H := ⟨fun _ h => .inl h, Tk.refl, fun _ _ _ h => h⟩
        have r2 : Rep K dk (fun b => F b ∨ b = a) H (.ref a) (.lst xs) := .lst (.inr rfl) e (r.mono g)
        obtain ⟨I2, g2⟩ := I.frz ⟨_, hx, trivial, ho⟩ r2
        exact ⟨_, ho, q _ _ _ _ _ g2 I2 r2 h⟩
    · rename_i xs hx
      obtain ⟨o, ho, s⟩ := I.slot hx
      cases s with
      | ownD e r =>
        rename_i a _
        have g : Grow K F H (fun b => F b ∨ b = a) H := ⟨fun _ h => .inl h, Tk.refl, fun _ _ _ h => h⟩
        have r2 : Rep K dk (fun b => F b ∨ b = a) H (.ref a) (.dic xs) := .dic (.inr rfl) e (r.mono g)
        obtain ⟨I2, g2⟩ := I.frz ⟨_, hx, trivial, ho⟩ r2
        exact ⟨_, ho, q _ _ _ _ _ g2 I2 r2 h⟩
    · cases h
def non : SE K where
  rd := fun _ => tC .non
  wp := fun _ ρ P => P .non ρ
  ok := fun I _ h q => q _ _ _ _ _ Grow.refl I .non h
def bl (b : Bool) : SE K where
  rd := fun _ => tC (.bl b)
  wp := fun _ ρ P => P (.bl b) ρ
  ok := fun I _ h q => q _ _ _ _ _ Grow.refl I (.bl b) h
def int (i : Int) : SE K where
  rd := fun _ => tC (.int i)
  wp := fun _ ρ P => P (.int i) ρ
  ok := fun I _ h q => q _ _ _ _ _ Grow.refl I (.int i) h
def str (x : Str) : SE K where
  rd := fun _ => tC (.str x)
  wp := fun _ ρ P => P (.str x) ρ
  ok := fun I _ h q => q _ _ _ _ _ Grow.refl I (.str x) h
def op (o : SO K) (a b : SE K) : SE K where
  rd := fun E => tOp o.rd (a.rd E) (b.rd E)
  wp := fun PE ρ P => a.wp PE ρ fun x ρ1 => b.wp PE ρ1 fun y ρ2 => o.wp x y fun z => P z ρ2
  ok := by
    intro dk F0 H0 F σ H ρ E PE P Q I e h q
    refine a.ok I e h fun v H1 F1 x ρ1 g1 I1 r1 h1 => ?_
    refine b.ok I1 (e.grow g1) h1 fun w H2 F2 y ρ2 g2 I2 r2 h2 => ?_
    exact o.ok I2 (r1.mono g2) r2 h2 fun z H3 F3 u g3 I3 r3 h3 => q z H3 F3 u ρ2 ((g1.trans g2).trans g3) I3 r3 h3
def un (o : SU K) (a : SE K) : SE K where
  rd := fun E => tUn o.rd (a.rd E)
  wp := fun PE ρ P => a.wp PE ρ fun x ρ1 => o.wp x fun z => P z ρ1
  ok := by
    intro dk F0 H0 F σ H ρ E PE P Q I e h q
    refine a.ok I e h fun v H1 F1 x ρ1 g1 I1 r1 h1 => ?_
    exact o.ok I1 r1 h1 fun z H3 F3 u g3 I3 r3 h3 => q z H3 F3 u ρ1 (g1.trans g3) I3 r3 h3
def cb (o : SB K) (a : SA K) : SE K where
  rd := fun E => tCB o.rd (a.rd E)
  wp := fun PE ρ P => a.wp PE ρ fun xs ρ1 => o.wp xs fun z => P z ρ1
  ok := by
    intro dk F0 H0 F σ H ρ E PE P Q I e h q
    refine a.ok I e h fun v H1 F1 x ρ1 g1 I1 r1 h1 => ?_
    exact o.ok I1 r1 h1 fun z H3 F3 u g3 I3 r3 h3 => q z H3 F3 u ρ1 (g1.trans g3) I3 r3 h3
def tup (a : SA K) : SE K where
  rd := fun E => tTup (a.rd E)
  wp := fun PE ρ P => a.wp PE ρ fun xs ρ1 => xs.length ≤ sizeLine ∧ P (.tup xs) ρ1
  ok := by
    intro dk F0 H0 F σ H ρ E PE P Q I e h q
    refine a.ok I e h fun v H1 F1 x ρ1 g1 I1 r1 h1 => ?_
    refine ⟨by rw [r1.len]; exact h1.1, fun p hp => ?_⟩
    exact q _ _ _ _ _ (g1.trans (Grow.new hp)) (I1.new hp) (.tup (SqT.of upd_same) (r1.mono (Grow.new hp))) h1.2
def lst (a : SA K) : SE K where
  rd := fun E => tLst (a.rd E)
  wp := fun PE ρ P => a.wp PE ρ fun xs ρ1 => xs.length ≤ sizeLine ∧ P (.lst xs) ρ1
  ok := by
    intro dk F0 H0 F σ H ρ E PE P Q I e h q
    refine a.ok I e h fun v H1 F1 x ρ1 g1 I1 r1 h1 => ?_
    refine ⟨by rw [r1.len]; exact h1.1, fun p hp => ?_⟩
    exact q _ _ _ _ _ (g1.trans (Grow.newF hp)) (I1.newF hp) (.lst (.inr rfl) upd_same (r1.mono (Grow.newF hp))) h1.2
def ifE (c : ST K) (a b : SE K) : SE K where
  rd := fun E => tIf (c.rd E) (a.rd E) (b.rd E)
  wp := fun PE ρ P => c.wp PE ρ fun k ρ1 => if k = true then a.wp PE ρ1 P else b.wp PE ρ1 P
  ok := by
    intro dk F0 H0 F σ H ρ E PE P Q I e h q
    refine c.ok I e h fun k H1 F1 ρ1 g1 I1 h1 => ?_
    cases k with
    | true => exact a.ok I1 (e.grow g1) h1 fun v H2 F2 x ρ2 g2 I2 r2 h2 => q v H2 F2 x ρ2 (g1.trans g2) I2 r2 h2
    | false => exact b.ok I1 (e.grow g1) h1 fun v H2 F2 x ρ2 g2 I2 r2 h2 => q v H2 F2 x ρ2 (g1.trans g2) I2 r2 h2
def andV (a b : SE K) : SE K where
  rd := fun E => tAndV (a.rd E) (b.rd E)
  wp := fun PE ρ P => a.wp PE ρ fun x ρ1 => ∃ c, x = .bl c ∧ if c = true then b.wp PE ρ1 P else P (.bl false) ρ1
  ok := by
    intro dk F0 H0 F σ H ρ E PE P Q I e h q
    refine a.ok I e h fun v H1 F1 x ρ1 g1 I1 r1 h1 => ?_
    obtain ⟨c, rfl, h1⟩ := h1
    cases r1
    refine ⟨c, rfl, ?_⟩
    cases c with
    | true => exact b.ok I1 (e.grow g1) h1 fun v H2 F2 x ρ2 g2 I2 r2 h2 => q v H2 F2 x ρ2 (g1.trans g2) I2 r2 h2
    | false => exact q _ _ _ _ _ g1 I1 (.bl _) h1
def orV (a b : SE K) : SE K where
  rd := fun E => tOrV (a.rd E) (b.rd E)
  wp := fun PE ρ P => a.wp PE ρ fun x ρ1 => ∃ c, x = .bl c ∧ if c = true then P (.bl true) ρ1 else b.wp PE ρ1 P
  ok := by
    intro dk F0 H0 F σ H ρ E PE P Q I e h q
    refine a.ok I e h fun v H1 F1 x ρ1 g1 I1 r1 h1 => ?_
    obtain ⟨c, rfl, h1⟩ := h1
    cases r1
    refine ⟨c, rfl, ?_⟩
    cases c with
    | true => exact q _ _ _ _ _ g1 I1 (.bl _) h1
    | false => exact b.ok I1 (e.grow g1) h1 fun v H2 F2 x ρ2 g2 I2 r2 h2 => q v H2 F2 x ρ2 (g1.trans g2) I2 r2 h2
def notV (a : SE K) : SE K where
  rd := fun E => tNotV (a.rd E)
  wp := fun PE ρ P => a.wp PE ρ fun x ρ1 => ∃ c, x = .bl c ∧ P (.bl (!c)) ρ1
  ok := by
    intro dk F0 H0 F σ H ρ E PE P Q I e h q
    refine a.ok I e h fun v H1 F1 x ρ1 g1 I1 r1 h1 => ?_
    obtain ⟨c, rfl, h1⟩ := h1
    cases r1
    exact ⟨c, rfl, q _ _ _ _ _ g1 I1 (.bl _) h1⟩
end SE
def PV.isN : PV → Bool
  | .non => true
  | _ => false
theorem Rep.isN {K : PySem.W.Frag} {dk : Option Addr} {F : Addr → Prop} {H : Hp} {v : V} {x : PV} (r : Rep K dk F H v x) : decide (v = .non) = x.isN := by
  cases r <;> rfl
namespace SE
variable {K : PySem.W.Frag}
def isN (a : SE K) : SE K where
  rd := fun E => tIsN (a.rd E)
  wp := fun PE ρ P => a.wp PE ρ fun x ρ1 => P (.bl x.isN) ρ1
  ok := by
    intro dk F0 H0 F σ H ρ E PE P Q I e h q
    refine a.ok I e h fun v H1 F1 x ρ1 g1 I1 r1 h1 => ?_
    show Q (.bl (decide (v = .non))) H1
    rw [r1.isN]
    exact q _ _ _ _ _ g1 I1 (.bl _) h1
def notN (a : SE K) : SE K where
  rd := fun E => tNotN (a.rd E)
  wp := fun PE ρ P => a.wp PE ρ fun x ρ1 => P (.bl (!x.isN)) ρ1
  ok := by
    intro dk F0 H0 F σ H ρ E PE P Q I e h q
    refine a.ok I e h fun v H1 F1 x ρ1 g1 I1 r1 h1 => ?_
    show Q (.bl (!decide (v = .non))) H1
    rw [r1.isN]
    exact q _ _ _ _ _ g1 I1 (.bl _) h1
end SE
namespace SA
variable {K : PySem.W.Frag}
def nil : SA K where
  rd := fun _ => tNil
  wp := fun _ ρ P => P [] ρ
  ok := fun I _ h q => q _ _ _ _ _ Grow.refl I .nil h
def cons (a : SE K) (t : SA K) : SA K where
  rd := fun E => tCons (a.rd E) (t.rd E)
  wp := fun PE ρ P => a.wp PE ρ fun x ρ1 => t.wp PE ρ1 fun xs ρ2 => P (x :: xs) ρ2
  ok := by
    intro dk F0 H0 F σ H ρ E PE P Q I e h q
    refine a.ok I e h fun v H1 F1 x ρ1 g1 I1 r1 h1 => ?_
    exact t.ok I1 (e.grow g1) h1 fun vs H2 F2 xs ρ2 g2 I2 r2 h2 => q _ _ _ _ _ (g1.trans g2) I2 (.cons (r1.mono g2) r2) h2
end SA
namespace ST
variable {K : PySem.W.Frag}
def test (a : SE K) : ST K where
  rd := fun E => tTest (a.rd E)
  wp := fun PE ρ P => a.wp PE ρ fun x ρ1 => ∃ k, x = .bl k ∧ P k ρ1
  ok := by
    intro dk F0 H0 F σ H ρ E PE P Q I e h q
    refine a.ok I e h fun v H1 F1 x ρ1 g1 I1 r1 h1 => ?_
    obtain ⟨c, rfl, h1⟩ := h1
    cases r1
    exact ⟨c, rfl, q _ _ _ _ g1 I1 h1⟩
def b (a : SE K) : ST K where
  rd := fun E => tB (a.rd E)
  wp := fun PE ρ P => a.wp PE ρ fun x ρ1 => ∃ k, x = .bl k ∧ P k ρ1
  ok := by
    intro dk F0 H0 F σ H ρ E PE P Q I e h q
    refine a.ok I e h fun v H1 F1 x ρ1 g1 I1 r1 h1 => ?_
    obtain ⟨c, rfl, h1⟩ := h1
    cases r1
    exact ⟨c, rfl, q _ _ _ _ g1 I1 h1⟩
def not (t : ST K) : ST K where
  rd := fun E => tNot (t.rd E)
  wp := fun PE ρ P => t.wp PE ρ fun k ρ1 => P (!k) ρ1
  ok := by
    intro dk F0 H0 F σ H ρ E PE P Q I e h q
    exact t.ok I e h fun k H1 F1 ρ1 g1 I1 h1 => q _ _ _ _ g1 I1 h1
def and (t u : ST K) : ST K where
  rd := fun E => tAnd (t.rd E) (u.rd E)
  wp := fun PE ρ P => t.wp PE ρ fun k ρ1 => if k = true then u.wp PE ρ1 P else P false ρ1
  ok := by
    intro dk F0 H0 F σ H ρ E PE P Q I e h q
    refine t.ok I e h fun k H1 F1 ρ1 g1 I1 h1 => ?_
    cases k with
    | true => exact u.ok I1 (e.grow g1) h1 fun v H2 F2 ρ2 g2 I2 h2 => q v H2 F2 ρ2 (g1.trans g2) I2 h2
    | false => exact q _ _ _ _ g1 I1 h1
def or (t u : ST K) : ST K where
  rd := fun E => tOr (t.rd E) (u.rd E)
  wp := fun PE ρ P => t.wp PE ρ fun k ρ1 => if k = true then P true ρ1 else u.wp PE ρ1 P
  ok := by
    intro dk F0 H0 F σ H ρ E PE P Q I e h q
    refine t.ok I e h fun k H1 F1 ρ1 g1 I1 h1 => ?_
    cases k with
    | true => exact q _ _ _ _ g1 I1 h1
    | false => exact u.ok I1 (e.grow g1) h1 fun v H2 F2 ρ2 g2 I2 h2 => q v H2 F2 ρ2 (g1.trans g2) I2 h2
/-- no test -/
def yes : ST K where
  rd := fun _ => tYes
  wp := fun _ ρ P => P true ρ
  ok := fun I _ h q => q _ _ _ _ Grow.refl I h
end ST
/-- the truth of a value -/
def PV.tru : PV → (Bool → Prop) → Prop
  | .non, P => P false
  | .bl b, P => P b
  | .int i, P => P (i != 0)
  | .str y, P => y.length ≤ sizeLine ∧ P ((y.length : Int) != 0)
  | .tup xs, P => P (!xs.isEmpty)
  | .lst xs, P => P (!xs.isEmpty)
  | .dic xs, P => P (!xs.isEmpty)
  | .deck, _ => False
section
variable {K : PySem.W.Frag} {dk : Option Addr} {F : Addr → Prop} {H : Hp}
theorem RepL.emp {vs : List V} {xs : List PV} (r : RepL K dk F H vs xs) : vs.isEmpty = xs.isEmpty := by cases r <;> rfl
theorem RepK.emp {vs : List (Key × V)} {xs : List (Key × PV)} (r : RepK K dk F H vs xs) : vs.isEmpty = xs.isEmpty := by cases r <;> rfl
theorem Rep.truV {v : V} {x : PV} {P : Bool → Prop} (r : Rep K dk F H v x) (h : x.tru P) : ∃ k, TruV K v H k ∧ P k := by
  cases r with
  | non => exact ⟨_, rfl, h⟩
  | bl b => exact ⟨_, rfl, h⟩
  | int i => exact ⟨_, rfl, h⟩
  | str y => exact ⟨_, ⟨h.1, rfl⟩, h.2⟩
  | tup s l => exact ⟨_, .inr (.inl ⟨_, s, rfl⟩), by rw [l.emp]; exact h⟩
  | lst f e l => exact ⟨_, .inl ⟨_, SqL.of e, rfl⟩, by rw [l.emp]; exact h⟩
  | dic f e l => exact ⟨_, .inr (.inr ⟨_, e, rfl⟩), by rw [l.emp]; exact h⟩
  | deck e => cases h
end
namespace ST
variable {K : PySem.W.Frag}
def tru (a : SE K) : ST K where
  rd := fun E => tTru K (a.rd E)
  wp := fun PE ρ P => a.wp PE ρ fun x ρ1 => x.tru fun k => P k ρ1
  ok := by
    intro dk F0 H0 F σ H ρ E PE P Q I e h q
    refine a.ok I e h fun v H1 F1 x ρ1 g1 I1 r1 h1 => ?_
    obtain ⟨k, hk, h1⟩ := r1.truV h1
    exact ⟨k, hk, q _ _ _ _ g1 I1 h1⟩
end ST
namespace SG
variable {K : PySem.W.Frag}
def name (i : Nat) : SG K where
  rd := gName i
  sl := [i]
  wp := fun x ρ P => P (ρ.set i (.val x))
  ok := fun I r h q => q _ _ (List.length_set ..) (fun j hj => by rw [getE_set, if_neg (fun e => hj (List.mem_singleton.mpr e.symm))]) (I.setV r) h
end SG
namespace SS
variable {K : PySem.W.Frag}
def next : SS K where
  rd := fun _ => tNext
  wp := fun _ PD ρ => PD.nx ρ
  ok := fun I _ d h => d.nx _ _ _ _ Grow.refl I h
def brk : SS K where
  rd := fun _ => tBreak
  wp := fun _ PD ρ => PD.bk ρ
  ok := fun I _ d h => d.bk _ _ _ _ Grow.refl I h
def cont : SS K where
  rd := fun _ => tCont
  wp := fun _ PD ρ => PD.ct ρ
  ok := fun I _ d h => d.ct _ _ _ _ Grow.refl I h
def never : SS K where
  rd := fun _ => tNever
  wp := fun _ _ _ => False
  ok := fun _ _ _ h => h.elim
def seq (t u : SS K) : SS K where
  rd := fun E => tSeq (t.rd E) (u.rd E)
  wp := fun PE PD ρ => t.wp PE { PD with nx := fun ρ' => u.wp PE PD ρ' } ρ
  ok := by
    intro dk F0 H0 F σ H ρ E PE D PD I e d h
    exact t.ok I e (d.withNx fun F' σ' H' ρ' g I' h' => u.ok I' (e.grow g) (d.grow g) h') h
def cut (t u : SS K) : SS K where
  rd := fun E => C8.tCut (t.rd E) (u.rd E)
  wp := fun PE PD ρ => t.wp PE { PD with nx := fun ρ' => u.wp PE PD ρ' } ρ
  ok := by
    intro dk F0 H0 F σ H ρ E PE D PD I e d h
    refine ⟨fun σ' H' => ∃ F' ρ', Grow K F H F' H' ∧ PInv K dk F0 H0 F' σ' H' ρ' ∧ u.wp PE PD ρ', ?_, ?_⟩
    · exact t.ok I e (d.withNx fun F' σ' H' ρ' g I' h' => ⟨F', ρ', g, I', h'⟩) h
    · rintro σ' H' ⟨F', ρ', g, I', h'⟩
      exact u.ok I' (e.grow g) (d.grow g) h'
def asg (a : SE K) (g : SG K) : SS K where
  rd := fun E => tAsg (a.rd E) g.rd
  wp := fun PE PD ρ => a.wp PE ρ fun x ρ1 => g.wp x ρ1 PD.nx
  ok := by
    intro dk F0 H0 F σ H ρ E PE D PD I e d h
    refine a.ok I e h fun v H1 F1 x ρ1 g1 I1 r1 h1 => ?_
    exact g.ok I1 r1 h1 fun σ' ρ' _ _ I' h' => d.nx _ _ _ _ g1 I' h'
def drop (a : SE K) : SS K where
  rd := fun E => tDrop (a.rd E)
  wp := fun PE PD ρ => a.wp PE ρ fun _ ρ1 => PD.nx ρ1
  ok := by
    intro dk F0 H0 F σ H ρ E PE D PD I e d h
    exact a.ok I e h fun v H1 F1 x ρ1 g1 I1 r1 h1 => d.nx _ _ _ _ g1 I1 h1
def ret (a : SE K) : SS K where
  rd := fun E => tRet (a.rd E)
  wp := fun PE PD ρ => a.wp PE ρ fun x _ => PD.rt x
  ok := by
    intro dk F0 H0 F σ H ρ E PE D PD I e d h
    exact a.ok I e h fun v H1 F1 x ρ1 g1 I1 r1 h1 => d.rt _ _ _ _ I1.st r1 h1
def retN : SS K where
  rd := fun _ => tRetN
  wp := fun _ PD _ => PD.rt .non
  ok := fun I _ d h => d.rt _ _ _ _ I.st .non h
def ifS (c : ST K) (t u : SS K) : SS K where
  rd := fun E => tIfS (c.rd E) (t.rd E) (u.rd E)
  wp := fun PE PD ρ => c.wp PE ρ fun k ρ1 => if k = true then t.wp PE PD ρ1 else u.wp PE PD ρ1
  ok := by
    intro dk F0 H0 F σ H ρ E PE D PD I e d h
    refine c.ok I e h fun k H1 F1 ρ1 g1 I1 h1 => ?_
    cases k with
    | true => exact t.ok I1 (e.grow g1) (d.grow g1) h1
    | false => exact u.ok I1 (e.grow g1) (d.grow g1) h1
end SS
end Tw
set_option Elab.async false
set_option linter.all false
set_option maxRecDepth 100000
set_option maxHeartbeats 4000000
/-! The plain layer: loops, comprehensions, calls, new lists, own lists. -/
namespace Tw
open PySem PySem.Spec PyProof.Rows L2
/-- J walks xs -/
def WalkOk (K : PySem.W.Frag) (dk : Option Addr) (F : Addr → Prop) (H : Hp) (J : It) (xs : List PV) : Prop :=
  ∃ (G : Hp → Prop) (Y : Nat → Hp → V → Hp → Prop), Walk J xs.length G Y ∧ (∀ F' H', Grow K F H F' H' → G H') ∧
    ∀ i F' H' v H'', i < xs.length → Grow K F H F' H' → Y i H' v H'' → (H'' = H' ∨ ∃ p ys, H' p = none ∧ H'' = upd H' p (.tup ys)) ∧ ∃ x, xs[i]? = some x ∧ Rep K dk F' H'' v x
structure SI (K : PySem.W.Frag) where
  rd : EK → TI
  wp : PEK → Env → (List PV → Env → Prop) → Prop
  ok : ∀ {dk F0 H0 F σ H ρ E PE P R}, PInv K dk F0 H0 F σ H ρ → ErrS K dk F0 H0 F H E PE → wp PE ρ P →
    (∀ J H' F' xs ρ', Grow K F H F' H' → PInv K dk F0 H0 F' σ H' ρ' → WalkOk K dk F' H' J xs → P xs ρ' → R J H') → rd E σ H R
def wpFor (step : PV → Env → PEnds → Prop) : List PV → Env → PEnds → Prop
  | [], ρ, PD => PD.nx ρ
  | x :: xs, ρ, PD => step x ρ { PD with nx := fun ρ' => wpFor step xs ρ' PD, ct := fun ρ' => wpFor step xs ρ' PD, bk := PD.nx }
def wpWhile (c : Env → (Bool → Env → Prop) → Prop) (b : PEnds → Env → Prop) (PD : PEnds) : Nat → Env → Prop
  | 0, _ => False
  | n + 1, ρ => c ρ fun k ρ1 => if k = true then b { PD with nx := wpWhile c b PD n, ct := wpWhile c b PD n, bk := PD.nx } ρ1 else PD.nx ρ1
section
variable {K : PySem.W.Frag} {dk : Option Addr} {F0 F F1 F2 : Addr → Prop} {H0 H H1 H2 : Hp} {E : EK} {PE : PEK} {D : Ends} {PD : PEnds} {σ : L2.St} {ρ : Env}
/-- what a turn yields is laid -/
theorem PInv.turn (I : PInv K dk F0 H0 F σ H ρ) {H' : Hp} (h : H' = H ∨ ∃ p ys, H p = none ∧ H' = upd H p (.tup ys)) : PInv K dk F0 H0 F σ H' ρ ∧ Grow K F H F H' := by
  rcases h with rfl | ⟨p, ys, hp, rfl⟩
  · exact ⟨I, Grow.refl⟩
  · exact ⟨I.new hp, Grow.new hp⟩
end
namespace SS
variable {K : PySem.W.Frag}
def for_ (wi : SI K) (g : SG K) (b : SS K) : SS K where
  rd := fun E => tFor (wi.rd E) g.rd (b.rd E)
  wp := fun PE PD ρ => wi.wp PE ρ fun xs ρ1 => wpFor (fun x ρ2 PD' => g.wp x ρ2 fun ρ3 => b.wp PE PD' ρ3) xs ρ1 PD
  ok := by
    intro dk F0 H0 F σ H ρ E PE D PD I e d h
    rw [o_for]
    refine wi.ok I e h fun J H1 F1 xs ρ1 g1 I1 wk h1 => ?_
    obtain ⟨G, Y, wk, wG, wY⟩ := wk
    refine fb_walk wk (fun i σ' H' => ∃ F' ρ', Grow K F1 H1 F' H' ∧ PInv K dk F0 H0 F' σ' H' ρ' ∧ wpFor (fun x ρ2 PD' => g.wp x ρ2 fun ρ3 => b.wp PE PD' ρ3) (xs.drop i) ρ' PD) ?_ ?_ ?_ ?_
    · exact ⟨F1, ρ1, Grow.refl, I1, h1⟩
    · rintro i σ' H' _ ⟨F', ρ', g', _⟩
      exact wG F' H' g'
    · rintro i v σ' H' H'' hi ⟨F', ρ', g', I', h'⟩ hy
      obtain ⟨hh, x, hx, r⟩ := wY i F' H' v H'' hi g' hy
      obtain ⟨I2, g2⟩ := I'.turn hh
      have e2 : xs.drop i = x :: xs.drop (i + 1) := by
        rw [List.drop_eq_getElem_cons hi]
        congr 1
        rw [List.getElem?_eq_getElem hi] at hx
        exact Option.some.inj hx
      rw [e2] at h'
      have g12 := (g1.trans g').trans g2
      refine g.ok I2 r h' fun σ3 ρ3 _ _ I3 h3 => b.ok I3 (e.grow g12) ⟨?_, ?_, ?_, ?_⟩ h3
      · exact fun F4 σ4 H4 ρ4 g4 I4 h4 => ⟨F4, ρ4, (g'.trans g2).trans g4, I4, h4⟩
      · exact d.rt
      · exact fun F4 σ4 H4 ρ4 g4 I4 h4 => d.nx _ _ _ _ (g12.trans g4) I4 h4
      · exact fun F4 σ4 H4 ρ4 g4 I4 h4 => ⟨F4, ρ4, (g'.trans g2).trans g4, I4, h4⟩
    · rintro σ' H' ⟨F', ρ', g', I', h'⟩
      rw [List.drop_length] at h'
      exact d.nx _ _ _ _ (g1.trans g') I' h'
def while_ (c : ST K) (b : SS K) : SS K where
  rd := fun E => tWhile (c.rd E) (b.rd E)
  wp := fun PE PD ρ => ∃ n, wpWhile (c.wp PE) (b.wp PE) PD n ρ
  ok := by
    intro dk F0 H0 F σ H ρ E PE D PD I e d h
    obtain ⟨n, h⟩ := h
    refine ⟨fun m σ' H' => ∃ F' ρ', Grow K F H F' H' ∧ PInv K dk F0 H0 F' σ' H' ρ' ∧ wpWhile (c.wp PE) (b.wp PE) PD m ρ', ⟨n, F, ρ, Grow.refl, I, h⟩, ?_⟩
    rintro m σ' H' ⟨F', ρ', g', I', h'⟩
    cases m with
    | zero => cases h'
    | succ m =>
      refine c.ok I' (e.grow g') h' fun k H2 F2 ρ2 g2 I2 h2 => ?_
      have g12 := g'.trans g2
      cases k with
      | false => exact d.nx _ _ _ _ g12 I2 h2
      | true =>
        refine ⟨fun σ3 H3 => ∃ F3 ρ3, Grow K F H F3 H3 ∧ PInv K dk F0 H0 F3 σ3 H3 ρ3 ∧ wpWhile (c.wp PE) (b.wp PE) PD m ρ3, fun σ3 H3 h3 => ⟨m, Nat.lt_succ_self m, h3⟩, ?_⟩
        refine b.ok I2 (e.grow g12) ⟨?_, ?_, ?_, ?_⟩ h2
        · exact fun F4 σ4 H4 ρ4 g4 I4 h4 => ⟨F4, ρ4, g12.trans g4, I4, h4⟩
        · exact d.rt
        · exact fun F4 σ4 H4 ρ4 g4 I4 h4 => d.nx _ _ _ _ (g12.trans g4) I4 h4
        · exact fun F4 σ4 H4 ρ4 g4 I4 h4 => ⟨F4, ρ4, g12.trans g4, I4, h4⟩
end SS
/-! ### a list under way: at D, in nobody's hand -/
section
variable {K : PySem.W.Frag} {dk : Option Addr} {F0 F F1 F2 : Addr → Prop} {H0 H H1 H2 : Hp} {E : EK} {PE : PEK} {D : Addr} {o o' : HO} {σ : L2.St} {ρ : Env}
theorem PInv.unbase (h0 : H0 D = none) (hd : dk ≠ some D) (I : PInv K dk F0 (upd H0 D o) F σ H ρ) : PInv K dk F0 H0 F σ H ρ := by
  have nk : ∀ d, dk = some d → d ≠ D := fun d h e => hd (e ▸ h)
  have hn : ∀ b, upd H0 D o b = none → H0 b = none := fun b h => by
    by_cases e : b = D
    · rw [e]; exact h0
    · rw [upd_ne e] at h; exact h
  refine ⟨⟨fun b u h n => I.st.base b u (by rw [upd_ne (ne_of_none h h0)]; exact h) n, fun b h => (I.st.fnew b h).imp id (hn b), I.st.fall, I.st.f0, I.st.fdk, I.st.deck, fun d h => ?_⟩, I.len, I.sl, I.dis, fun i a h => ⟨hn a (I.fresh i a h).1, (I.fresh i a h).2⟩⟩
  obtain ⟨x, y, z, q⟩ := I.st.deck0 d h
  rw [upd_ne (nk _ h)] at q
  exact ⟨x, y, z, q⟩
/-- D is guarded from now on -/
theorem PInv.rebase (h0 : H0 D = none) (hd : dk ≠ some D) (hD : H D = some o) (hf : ¬ F D) (ho : ∀ i, ¬ OwnAt σ ρ i D) (I : PInv K dk F0 H0 F σ H ρ) : PInv K dk F0 (upd H0 D o) F σ H ρ := by
  have nk : ∀ d, dk = some d → d ≠ D := fun d h e => hd (e ▸ h)
  have nf1 : ∀ b, F b → b ≠ D := fun b h e => hf (e ▸ h)
  have no1 : ∀ i a, OwnAt σ ρ i a → a ≠ D := fun i a h e => ho i (e ▸ h)
  refine ⟨⟨fun b u h n => ?_, fun b h => ?_, I.st.fall, I.st.f0, I.st.fdk, I.st.deck, fun d h => ?_⟩, I.len, I.sl, I.dis, fun i a h => ⟨?_, (I.fresh i a h).2⟩⟩
  · by_cases e : b = D
    · rw [e, upd_same] at h; cases h; rw [e]; exact hD
    · rw [upd_ne e] at h; exact I.st.base b u h n
  · rw [upd_ne (nf1 _ h)]; exact I.st.fnew b h
  · obtain ⟨x, y, z, q⟩ := I.st.deck0 d h
    exact ⟨x, y, z, by rw [upd_ne (nk _ h)]; exact q⟩
  · rw [upd_ne (no1 _ _ h)]; exact (I.fresh i a h).1
theorem PInv.offD (h0 : H0 D = none) (nf : ¬ F0 D) (I : PInv K dk F0 (upd H0 D o) F σ H ρ) : ¬ F D ∧ ∀ i, ¬ OwnAt σ ρ i D := by
  refine ⟨fun h => ?_, fun i h => ?_⟩
  · rcases I.st.fnew D h with h | h
    · exact nf h
    · rw [upd_same] at h; cases h
  · have := (I.fresh i D h).1
    rw [upd_same] at this; cases this
/-- the list under way is changed -/
theorem PInv.chgD {xs ys : List V} (h0 : H0 D = none) (nf : ¬ F0 D) (hd : dk ≠ some D) (I : PInv K dk F0 (upd H0 D (.lst xs)) F σ H ρ) : PInv K dk F0 (upd H0 D (.lst ys)) F σ (upd H D (.lst ys)) ρ ∧ Grow K F H F (upd H D (.lst ys)) := by
  have nk : ∀ d, dk = some d → d ≠ D := fun d h e => hd (e ▸ h)
  obtain ⟨f1, f2⟩ := I.offD h0 nf
  have hD : H D = some (.lst xs) := I.st.base D _ upd_same hd
  have ne1 : ∀ b, F b → b ≠ D := fun b h z => f1 (z ▸ h)
  have g : Grow K F H F (upd H D (.lst ys)) := by
    refine ⟨fun _ h => h, fun b us q => ?_, fun b v h e => by rw [upd_ne (ne1 b h)]; exact e⟩
    rcases q with q | q
    · rcases q with q | ⟨u, q⟩
      · exact .inl (.inl (by rw [upd_ne (fun z => by rw [z, hD] at q; cases q)]; exact q))
      · exact .inl (.inr ⟨u, by rw [upd_ne (fun z => by rw [z, hD] at q; cases q)]; exact q⟩)
    · exact .inr q
  refine ⟨⟨⟨fun b u h n => ?_, fun b h => ?_, fun b h => ?_, I.st.f0, I.st.fdk, fun d h => ?_, fun d h => ?_⟩, I.len, fun i s q hs hq => ?_, I.dis, fun i a h => ⟨?_, (I.fresh i a h).2⟩⟩, g⟩
  · by_cases e : b = D
    · rw [e, upd_same] at h ⊢; exact h
    · rw [upd_ne e] at h ⊢; exact I.st.base b u (by rw [upd_ne e]; exact h) n
  · have := I.st.fnew b h
    rw [upd_ne (ne1 b h)] at this ⊢; exact this
  · obtain ⟨u, e⟩ := I.st.fall b h
    exact ⟨u, by rw [upd_ne (ne1 b h)]; exact e⟩
  · obtain ⟨x, y, z, q⟩ := I.st.deck d h
    exact ⟨x, y, z, by rw [upd_ne (nk _ h)]; exact q⟩
  · obtain ⟨x, y, z, q⟩ := I.st.deck0 d h
    rw [upd_ne (nk _ h)] at q
    exact ⟨x, y, z, by rw [upd_ne (nk _ h)]; exact q⟩
  · refine (I.sl i s q hs hq).mono g fun a w e => upd_ne fun z => ?_
    exact f2 i ⟨s, hs, w, by rw [hq, e, z]⟩
  · have := (I.fresh i a h).1
    have ne : a ≠ D := fun z => f2 i (z ▸ h)
    rw [upd_ne ne] at this ⊢; exact this
theorem ErrS.rebase (h0 : H0 D = none) (hd : dk ≠ some D) (e : ErrS K dk F0 H0 F1 H1 E PE) : ErrS K dk F0 (upd H0 D o) F1 H1 E PE := fun F σ H ρ C d fv fs g I rf ed =>
  e F σ H ρ C d fv fs g (I.unbase h0 hd) rf (ed.imp id fun ⟨a, h1, h2, h3, h4⟩ => ⟨a, h1, h2, by
    by_cases q : a = D
    · rw [q]; exact h0
    · rw [upd_ne q] at h3; exact h3, h4⟩)
/-- a thing in nobody's hand is given away -/
theorem PInv.intoF (f : H0 D = none ∧ ¬ F D) (hD : H D = some o) (hd : dk ≠ some D) (ho : ∀ i, ¬ OwnAt σ ρ i D) (I : PInv K dk F0 H0 F σ H ρ) : PInv K dk F0 H0 (fun b => F b ∨ b = D) σ H ρ ∧ Grow K F H (fun b => F b ∨ b = D) H := by
  have g : Grow K F H (fun b => F b ∨ b = D) H := ⟨fun _ h => .inl h, Tk.refl, fun _ _ _ h => h⟩
  refine ⟨⟨⟨I.st.base, fun b hb => ?_, fun b hb => ?_, fun b hb => .inl (I.st.f0 b hb), fun b hb => ?_, I.st.deck, I.st.deck0⟩, I.len, fun j s q hs hq => (I.sl j s q hs hq).mono g fun _ _ _ => rfl, I.dis, fun j b h => ⟨(I.fresh j b h).1, fun z => z.elim (I.fresh j b h).2 fun z => ho j (z ▸ h)⟩⟩, g⟩
  · rcases hb with hb | rfl
    · exact I.st.fnew b hb
    · exact .inr f.1
  · rcases hb with hb | rfl
    · exact I.st.fall b hb
    · exact ⟨o, hD⟩
  · rcases hb with hb | rfl
    · exact I.st.fdk b hb
    · exact hd
end
/-- an expression that lays a new list (in nobody's hand yet) -/
structure SN (K : PySem.W.Frag) where
  rd : EK → TE
  wp : PEK → Env → (List PV → Env → Prop) → Prop
  ok : ∀ {dk F0 H0 F σ H ρ E PE P Q}, PInv K dk F0 H0 F σ H ρ → ErrS K dk F0 H0 F H E PE → wp PE ρ P →
    (∀ a vs H' F' xs ρ', Grow K F H F' H' → PInv K dk F0 H0 F' σ H' ρ' → H' a = some (.lst vs) → RepL K dk F' H' vs xs → H0 a = none → ¬ F' a → dk ≠ some a → (∀ i, ¬ OwnAt σ ρ' i a) → P xs ρ' → Q (.ref a) H') → rd E σ H Q
section
variable {K : PySem.W.Frag} {dk : Option Addr} {F0 F : Addr → Prop} {H0 H : Hp} {σ : L2.St} {ρ : Env}
/-- a list is laid -/
theorem PInv.laid (I : PInv K dk F0 H0 F σ H ρ) {p : Addr} (hp : H p = none) {vs : List V} {xs : List PV} (r : RepL K dk F H vs xs) :
    PInv K dk F0 H0 F σ (upd H p (.lst vs)) ρ ∧ Grow K F H F (upd H p (.lst vs)) ∧ upd H p (.lst vs) p = some (.lst vs) ∧ RepL K dk F (upd H p (.lst vs)) vs xs ∧ H0 p = none ∧ ¬ F p ∧ dk ≠ some p ∧ ∀ i, ¬ OwnAt σ ρ i p := by
  obtain ⟨f1, f2⟩ := I.st.freshOf hp
  refine ⟨I.new hp, Grow.new hp, upd_same, r.mono (Grow.new hp), f1, f2, fun e => ?_, fun i h => ?_⟩
  · obtain ⟨x, y, z, q⟩ := I.st.deck p e
    rw [hp] at q; cases q
  · obtain ⟨u, q⟩ := I.ownNe h
    rw [hp] at q; cases q
end
namespace SN
variable {K : PySem.W.Frag}
def lst (a : SA K) : SN K where
  rd := fun E => tLst (a.rd E)
  wp := fun PE ρ P => a.wp PE ρ fun xs ρ1 => xs.length ≤ sizeLine ∧ P xs ρ1
  ok := by
    intro dk F0 H0 F σ H ρ E PE P Q I e h q
    refine a.ok I e h fun v H1 F1 x ρ1 g1 I1 r1 h1 => ?_
    refine ⟨by rw [r1.len]; exact h1.1, fun p hp => ?_⟩
    obtain ⟨I2, g2, e2, r2, a1, a2, a3, a4⟩ := I1.laid hp r1
    exact q _ _ _ _ _ _ (g1.trans g2) I2 e2 r2 a1 a2 a3 a4 h1.2
end SN
namespace SE
variable {K : PySem.W.Frag}
/-- a new list as a value -/
def nl (n : SN K) : SE K where
  rd := n.rd
  wp := fun PE ρ P => n.wp PE ρ fun xs ρ1 => P (.lst xs) ρ1
  ok := by
    intro dk F0 H0 F σ H ρ E PE P Q I e h q
    refine n.ok I e h fun a vs H1 F1 xs ρ1 g1 I1 e1 r1 a1 a2 a3 a4 h1 => ?_
    obtain ⟨I2, g2⟩ := I1.intoF ⟨a1, a2⟩ e1 a3 a4
    exact q _ _ _ _ _ (g1.trans g2) I2 (.lst (.inr rfl) e1 (r1.mono g2)) h1
end SE
namespace SS
variable {K : PySem.W.Frag}
/-- x = a new list that x changes -/
def own (i : Nat) (n : SN K) : SS K where
  rd := fun E => tAsg (n.rd E) (gName i)
  wp := fun PE PD ρ => n.wp PE ρ fun xs ρ1 => PD.nx (ρ1.set i (.own xs))
  ok := by
    intro dk F0 H0 F σ H ρ E PE D PD I e d h
    refine n.ok I e h fun a vs H1 F1 xs ρ1 g1 I1 e1 r1 a1 a2 a3 a4 h1 => ?_
    exact d.nx _ _ _ _ g1 (I1.setO (.own e1 r1) ⟨a1, a2⟩ fun j hj => (a4 j hj).elim) h1
end SS
end Tw
set_option Elab.async false
set_option linter.all false
set_option maxRecDepth 100000
set_option maxHeartbeats 4000000
/-! The plain layer: comprehensions, calls, defs, own lists. -/
namespace Tw
open PySem PySem.Spec PyProof.Rows L2
def wipeE (ρ : Env) : List Nat → Env
  | [] => ρ
  | v :: vs => (wipeE ρ vs).set v .no
theorem wipe_get (σ : L2.St) (j : Nat) : ∀ vs : List Nat, (wipe σ vs)[j]? = if j ∈ vs then (if j < σ.length then some none else none) else σ[j]?
  | [] => by simp [wipe]
  | v :: vs => by
    have ih := wipe_get σ j vs
    rw [wipe, getE_set, wipe_length]
    by_cases h : v = j
    · subst h; rw [if_pos rfl, if_pos (List.mem_cons_self ..)]
    · rw [if_neg h, ih]
      have : (j ∈ v :: vs) ↔ j ∈ vs := ⟨fun z => (List.mem_cons.mp z).resolve_left fun y => h y.symm, fun z => List.mem_cons_of_mem _ z⟩
      simp only [this]
theorem wipeE_len (ρ : Env) : ∀ vs : List Nat, (wipeE ρ vs).length = ρ.length
  | [] => rfl
  | v :: vs => by rw [wipeE, List.length_set, wipeE_len ρ vs]
theorem wipeE_get (ρ : Env) (j : Nat) : ∀ vs : List Nat, (wipeE ρ vs)[j]? = if j ∈ vs then (if j < ρ.length then some .no else none) else ρ[j]?
  | [] => by simp [wipeE]
  | v :: vs => by
    have ih := wipeE_get ρ j vs
    rw [wipeE, getE_set, wipeE_len]
    by_cases h : v = j
    · subst h; rw [if_pos rfl, if_pos (List.mem_cons_self ..)]
    · rw [if_neg h, ih]
      have : (j ∈ v :: vs) ↔ j ∈ vs := ⟨fun z => (List.mem_cons.mp z).resolve_left fun y => h y.symm, fun z => List.mem_cons_of_mem _ z⟩
      simp only [this]
theorem wipe_same {σ σ' : L2.St} {vs : List Nat} (hl : σ'.length = σ.length) (h : ∀ j, j ∉ vs → σ'[j]? = σ[j]?) : wipe σ' vs = wipe σ vs := by
  apply List.ext_getElem?
  intro j
  rw [wipe_get, wipe_get, hl]
  by_cases hj : j ∈ vs
  · rw [if_pos hj, if_pos hj]
  · rw [if_neg hj, if_neg hj, h j hj]
theorem wipe_wipe {σ : L2.St} {vs : List Nat} : wipe (wipe σ vs) vs = wipe σ vs := wipe_same (wipe_length _ _) fun j hj => by rw [wipe_get, if_neg hj]
section
variable {K : PySem.W.Frag} {dk : Option Addr} {F0 F F1 F2 : Addr → Prop} {H0 H H1 H2 : Hp} {E : EK} {PE : PEK} {σ σ' : L2.St} {ρ : Env}
theorem PInv.wiped (I : PInv K dk F0 H0 F σ H ρ) : ∀ vs : List Nat, PInv K dk F0 H0 F (wipe σ vs) H (wipeE ρ vs)
  | [] => I
  | v :: vs => (I.wiped vs).setN
theorem PInv.unwiped {vs : List Nat} (I : PInv K dk F0 H0 F σ' H ρ) (hl : σ'.length = σ.length) (h : ∀ j, j ∉ vs → σ'[j]? = σ[j]?) (hn : ∀ j, j ∈ vs → ∀ s, ρ[j]? = some s → s = .no) : PInv K dk F0 H0 F σ H ρ := by
  have ho : ∀ i a, OwnAt σ ρ i a → OwnAt σ' ρ i a := by
    rintro i a ⟨s, hs, hw, e⟩
    by_cases hi : i ∈ vs
    · rw [hn i hi s hs] at hw; cases hw
    · exact ⟨s, hs, hw, by rw [h i hi]; exact e⟩
  refine ⟨I.st, by rw [← hl]; exact I.len, fun i s o hs hq => ?_, fun i j a x y => I.dis i j a (ho i a x) (ho j a y), fun i a x => I.fresh i a (ho i a x)⟩
  by_cases hi : i ∈ vs
  · rw [hn i hi s hs]; exact .no _
  · exact I.sl i s o hs (by rw [h i hi]; exact hq)
theorem wipeE_no {vs : List Nat} {j : Nat} (hj : j ∈ vs) {s : Sl} (h : (wipeE ρ vs)[j]? = some s) : s = .no := by
  rw [wipeE_get, if_pos hj] at h
  split at h
  · cases h; rfl
  · cases h
end
def wpLc (step : PV → Env → (Option PV → Env → Prop) → Prop) : List PV → List PV → Env → (List PV → Env → Prop) → Prop
  | [], acc, ρ, P => P acc ρ
  | x :: xs, acc, ρ, P => step x ρ fun o ρ' => match o with
    | some y => acc.length < sizeLine ∧ wpLc step xs (acc ++ [y]) ρ' P
    | none => wpLc step xs acc ρ' P
/-- a turn of a comprehension -/
def lcStep {K : PySem.W.Frag} (g : SG K) (tt : ST K) (te : SE K) (PE : PEK) (x : PV) (ρ : Env) (k : Option PV → Env → Prop) : Prop :=
  g.wp x ρ fun ρ1 => tt.wp PE ρ1 fun b ρ2 => if b = true then te.wp PE ρ2 fun y ρ3 => k (some y) (wipeE ρ3 g.sl) else k none (wipeE ρ2 g.sl)
namespace SN
variable {K : PySem.W.Frag}
def lc (wi : SI K) (g : SG K) (tt : ST K) (te : SE K) : SN K where
  rd := fun E => tLc (wi.rd E) g.rd (tt.rd E) (te.rd E) g.sl
  wp := fun PE ρ P => wi.wp PE ρ fun xs ρ1 => wpLc (lcStep g tt te PE) xs [] (wipeE ρ1 g.sl) P
  ok := by
    intro dk F0 H0 F σ H ρ E PE P Q I e h q
    rw [o_lc]
    refine wi.ok I e h fun J H1 F1 xs ρ1 g1 I1 wk h1 => ?_
    obtain ⟨G, Y, wk, wG, wY⟩ := wk
    refine lb_walk wk (fun D i H' => H1 D = none ∧ H0 D = none ∧ ¬ F0 D ∧ dk ≠ some D ∧ ∃ F' ρ' accv acc, Grow K F1 H1 F' H' ∧ PInv K dk F0 (upd H0 D (.lst accv)) F' (wipe σ g.sl) H' ρ' ∧ RepL K dk F' H' accv acc ∧ (∀ j, j ∈ g.sl → ∀ s, ρ'[j]? = some s → s = .no) ∧ wpLc (lcStep g tt te PE) (xs.drop i) acc ρ' P) ?_ ?_ ?_ ?_
    · intro D hD
      obtain ⟨I2, g2, e2, r2, a1, a2, a3, a4⟩ := I1.laid hD (RepL.nil)
      refine ⟨hD, a1, fun z => a2 (I1.st.f0 _ z), a3, F1, wipeE ρ1 g.sl, [], [], g2, ?_, .nil, fun j hj s hs => wipeE_no hj hs, h1⟩
      refine (I2.wiped g.sl).rebase a1 a3 e2 a2 fun i h => ?_
      obtain ⟨s, hs, hw, ee⟩ := h
      rw [wipe_get] at ee
      rw [wipeE_get] at hs
      by_cases hi : i ∈ g.sl
      · rw [if_pos hi] at hs
        split at hs
        · cases hs; cases hw
        · cases hs
      · rw [if_neg hi] at ee hs
        exact a4 i ⟨s, hs, hw, ee⟩
    · rintro D i H' _ ⟨_, _, _, _, F', ρ', _, _, g', _⟩
      exact wG F' H' g'
    · rintro D i v H' H'' hi ⟨hD, d0, df, dd, F', ρ', accv, acc, g', I', r', hn, h'⟩ hy
      obtain ⟨hh, x, hx, r⟩ := wY i F' H' v H'' hi g' hy
      obtain ⟨I2, g2⟩ := I'.turn hh
      have e2 : xs.drop i = x :: xs.drop (i + 1) := by
        rw [List.drop_eq_getElem_cons hi]
        congr 1
        rw [List.getElem?_eq_getElem hi] at hx
        exact Option.some.inj hx
      rw [e2] at h'
      have g12 := (g1.trans g').trans g2
      refine g.ok I2 r h' fun σ3 ρ3 hl3 hs3 I3 h3 => ?_
      have hw3 : wipe σ3 g.sl = wipe σ g.sl := (wipe_same hl3 hs3).trans wipe_wipe
      refine ⟨hw3, ?_⟩
      have eD := (e.grow g12).rebase (o := .lst accv) d0 dd
      refine tt.ok I3 eD h3 fun b H4 F4 ρ4 g4 I4 h4 => ?_
      cases b with
      | true =>
        refine te.ok I4 (eD.grow g4) h4 fun w H5 F5 y ρ5 g5 I5 r5 h5 => ?_
        have gA := (g2.trans g4).trans g5
        have hD5 : H5 D = some (.lst accv) := I5.st.base D _ upd_same dd
        have ra := r'.mono gA
        obtain ⟨I6, g6⟩ := I5.chgD (ys := accv ++ [w]) d0 df dd
        refine ⟨accv, hD5, by rw [ra.len]; exact h5.1, hD, d0, df, dd, F5, wipeE ρ5 g.sl, accv ++ [w], acc ++ [y], (g'.trans gA).trans g6, ?_, (ra.app (.one r5)).mono g6, fun j hj s hs => wipeE_no hj hs, h5.2⟩
        have := I6.wiped g.sl
        rw [hw3] at this
        exact this
      | false =>
        have gA := g2.trans g4
        have := I4.wiped g.sl
        rw [hw3] at this
        exact ⟨hD, d0, df, dd, F4, wipeE ρ4 g.sl, accv, acc, g'.trans gA, this, r'.mono gA, fun j hj s hs => wipeE_no hj hs, h4⟩
    · rintro D H' hD ⟨_, d0, df, dd, F', ρ', accv, acc, g', I', r', hn, h'⟩
      rw [List.drop_length] at h'
      have hD5 : H' D = some (.lst accv) := I'.st.base D _ upd_same dd
      obtain ⟨f1, f2⟩ := I'.offD d0 df
      have I2 := (I'.unbase d0 dd).unwiped (σ := σ) (vs := g.sl) (wipe_length _ _) (fun j hj => by rw [wipe_get, if_neg hj]) hn
      refine q D accv H' F' acc ρ' (g1.trans g') I2 hD5 r' d0 f1 dd (fun i h => ?_) h'
      obtain ⟨s, hs, hw, ee⟩ := h
      refine f2 i ⟨s, hs, hw, ?_⟩
      rw [wipe_get]
      by_cases hi : i ∈ g.sl
      · rw [hn i hi s hs] at hw; cases hw
      · rw [if_neg hi]; exact ee
end SN
/-! ### calls -/
abbrev PSp := List PV → (PErr → Prop) → (PV → Prop) → Prop
/-- the promise sp follows from the plain one -/
def SpOk (K : PySem.W.Frag) (sp : Sp) (psp : PSp) : Prop := ∀ dk F H vs xs perr post Q E, St0 K dk F H F H → RepL K dk F H vs xs → psp xs perr post →
  (∀ v H' F' x, St0 K dk F H F' H' → Rep K dk F' H' v x → post x → Q v H') → (∀ C d fv fs F' H', St0 K dk F H F' H' → RepF K dk F' H' fv fs → ErrD H F' H' d fv → perr (C, fs) → E (.ref C) d H') → sp vs H Q E
def spOf (K : PySem.W.Frag) (psp : PSp) : Sp := fun vs H Q E => ∃ dk F xs perr post, St0 K dk F H F H ∧ RepL K dk F H vs xs ∧ psp xs perr post ∧
  (∀ v H' F' x, St0 K dk F H F' H' → Rep K dk F' H' v x → post x → Q v H') ∧ (∀ C d fv fs F' H', St0 K dk F H F' H' → RepF K dk F' H' fv fs → ErrD H F' H' d fv → perr (C, fs) → E (.ref C) d H')
theorem spOf_ok (K : PySem.W.Frag) (psp : PSp) : SpOk K (spOf K psp) psp := fun dk F H vs xs perr post Q E h r p q e => ⟨dk, F, xs, perr, post, h, r, p, q, e⟩
section
variable {K : PySem.W.Frag} {dk : Option Addr} {F0 F F' : Addr → Prop} {H0 H H' : Hp} {σ : L2.St} {ρ : Env}
/-- behind a call -/
theorem PInv.call (I : PInv K dk F0 H0 F σ H ρ) (s : St0 K dk F H F' H') : PInv K dk F0 H0 F' σ H' ρ ∧ Grow K F H F' H' := by
  have g := s.grow
  have old : ∀ i a, OwnAt σ ρ i a → H' a = H a ∧ ¬ F' a := by
    intro i a h
    obtain ⟨u, q⟩ := I.ownNe h
    have hd : dk ≠ some a := fun e => by
      obtain ⟨x, y, z, q0⟩ := I.st.deck0 a e
      rw [(I.fresh i a h).1] at q0; cases q0
    refine ⟨by rw [s.base a u q hd, q], fun hf => ?_⟩
    rcases s.fnew a hf with z | z
    · exact (I.fresh i a h).2 z
    · rw [q] at z; cases z
  refine ⟨⟨⟨fun b o h n => s.base b o (I.st.base b o h n) n, fun b h => ?_, s.fall, fun b h => s.f0 b (I.st.f0 b h), s.fdk, s.deck, I.st.deck0⟩, I.len, fun i t o ht ho => (I.sl i t o ht ho).mono g fun a w e => (old i a ⟨t, ht, w, by rw [ho, e]⟩).1, I.dis, fun i a h => ⟨(I.fresh i a h).1, (old i a h).2⟩⟩, g⟩
  rcases s.fnew b h with z | z
  · exact I.st.fnew b z
  · exact .inr (I.st.freshOf z).1
end
namespace SE
variable {K : PySem.W.Frag}
/-- a call of a def that raises nothing -/
def call (sp : Sp) (psp : PSp) (hs : SpOk K sp psp) (a : SA K) : SE K where
  rd := fun E => tCall sp [] E0 (a.rd E)
  wp := fun PE ρ P => a.wp PE ρ fun xs ρ1 => psp xs (fun _ => False) fun x => P x ρ1
  ok := by
    intro dk F0 H0 F σ H ρ E PE P Q I e h q
    refine a.ok I e h fun vs H1 F1 xs ρ1 g1 I1 r1 h1 => ?_
    show sp (vs ++ []) H1 Q E0
    rw [List.append_nil]
    refine hs dk F1 H1 vs xs _ _ Q E0 I1.st.self r1 h1 (fun v H' F' x s r p => ?_) fun _ _ _ _ _ _ _ _ _ z => z.elim
    obtain ⟨I2, g2⟩ := I1.call s
    exact q v H' F' x ρ1 (g1.trans g2) I2 r p
/-- a call of a def that may raise -/
def callS (sp : Sp) (psp : PSp) (hs : SpOk K sp psp) (a : SA K) : SE K where
  rd := fun E => tCallS sp E (a.rd E)
  wp := fun PE ρ P => a.wp PE ρ fun xs ρ1 => psp xs (fun er => PE ρ1 er) fun x => P x ρ1
  ok := by
    intro dk F0 H0 F σ H ρ E PE P Q I e h q
    refine a.ok I e h fun vs H1 F1 xs ρ1 g1 I1 r1 h1 => ?_
    refine hs dk F1 H1 vs xs _ _ Q (E σ) I1.st.self r1 h1 (fun v H' F' x s r p => ?_) fun C d fv fs F' H' s r ed p => ?_
    · obtain ⟨I2, g2⟩ := I1.call s
      exact q v H' F' x ρ1 (g1.trans g2) I2 r p
    · obtain ⟨I2, g2⟩ := I1.call s
      exact e F' σ H' ρ1 C d fv fs (g1.trans g2) I2 r (ed.imp id fun ⟨a, h1, h2, h3, h4⟩ => ⟨a, h1, h2, (I1.st.freshOf h3).1, h4⟩) p
end SE
/-! ### defs -/
def startE (n : Nat) (xs : List PV) : Env := xs.map .val ++ List.replicate (n - xs.length) .no
theorem PInv.start {K : PySem.W.Frag} {dk : Option Addr} {F : Addr → Prop} {H : Hp} {vs : List V} {xs : List PV} {n : Nat} (s : St0 K dk F H F H) (r : RepL K dk F H vs xs) : PInv K dk F H F (startN n vs) H (startE n xs) := by
  have hl := r.len
  have no : ∀ i a, ¬ OwnAt (startN n vs) (startE n xs) i a := by
    rintro i a ⟨t, ht, hw, _⟩
    unfold startE at ht
    by_cases hi : i < xs.length
    · rw [List.getElem?_append_left (by simpa using hi), List.getElem?_map, Option.map_eq_some_iff] at ht
      obtain ⟨x, _, rfl⟩ := ht
      cases hw
    · rw [List.getElem?_append_right (by simpa using hi)] at ht
      have := List.mem_of_getElem? ht
      rw [List.mem_replicate] at this
      rw [this.2] at hw; cases hw
  refine ⟨s, by simp [startN, startE, hl], fun i t o ht ho => ?_, fun i j a h => (no i a h).elim, fun i a h => (no i a h).elim⟩
  unfold startE at ht
  unfold startN at ho
  by_cases hi : i < xs.length
  · rw [List.getElem?_append_left (by simpa using hi), List.getElem?_map, Option.map_eq_some_iff] at ht
    rw [List.getElem?_append_left (by simpa [hl] using hi), List.getElem?_map, Option.map_eq_some_iff] at ho
    obtain ⟨x, hx, rfl⟩ := ht
    obtain ⟨v, hv, rfl⟩ := ho
    obtain ⟨x', hx', rr⟩ := r.get hv
    rw [hx] at hx'; cases hx'
    exact .val rr
  · rw [List.getElem?_append_right (by simpa using hi)] at ht
    have := List.mem_of_getElem? ht
    rw [List.mem_replicate] at this
    rw [this.2]; exact .no _
/-- a def keeps its promise -/
theorem SS.run {K : PySem.W.Frag} (X : SS K) {psp : PSp} {n : Nat} (h : ∀ xs perr post, psp xs perr post → X.wp (fun _ => perr) { nx := fun _ => post .non, rt := post } (startE n xs)) (vs : List V) (H : Hp) (Q : VK) (E : XK) (hs : spOf K psp vs H Q E) :
    X.rd (fun _ => E) { nx := fun _ H' => Q .non H', rt := Q } (startN n vs) H := by
  obtain ⟨dk, F, xs, perr, post, s, r, p, q, e⟩ := hs
  refine X.ok (PE := fun _ => perr) (PD := { nx := fun _ => post .non, rt := post }) (PInv.start s r) (fun F' σ' H' ρ' C d fv fs g I' rf ed pp => e C d fv fs F' H' I'.st rf ed pp) ⟨fun F' σ' H' ρ' g I' pp => q .non H' F' .non I'.st .non pp, fun F' H' v x s' r' pp => q v H' F' x s' r' pp, fun _ _ _ _ _ _ z => z.elim, fun _ _ _ _ _ _ z => z.elim⟩ (h xs perr post p)
/-- a def that raises nothing -/
theorem SS.run0 {K : PySem.W.Frag} (X : SS K) {psp : PSp} {n : Nat} (h : ∀ xs perr post, psp xs perr post → X.wp (fun _ _ => False) { nx := fun _ => post .non, rt := post } (startE n xs)) (vs : List V) (H : Hp) (Q : VK) (E : XK) (hs : spOf K psp vs H Q E) :
    X.rd (fun _ => E0) { nx := fun _ H' => Q .non H', rt := Q } (startN n vs) H := by
  obtain ⟨dk, F, xs, perr, post, s, r, p, q, e⟩ := hs
  refine X.ok (PE := fun _ _ => False) (PD := { nx := fun _ => post .non, rt := post }) (PInv.start s r) (fun F' σ' H' ρ' C d fv fs g I' rf ed pp => pp.elim) ⟨fun F' σ' H' ρ' g I' pp => q .non H' F' .non I'.st .non pp, fun F' H' v x s' r' pp => q v H' F' x s' r' pp, fun _ _ _ _ _ _ z => z.elim, fun _ _ _ _ _ _ z => z.elim⟩ (h xs perr post p)
theorem spOf_len {K : PySem.W.Frag} {psp : PSp} {m : Nat} (h : ∀ xs perr post, psp xs perr post → xs.length = m) (vs : List V) (H : Hp) (Q : VK) (E : XK) (hs : spOf K psp vs H Q E) : vs.length = m := by
  obtain ⟨dk, F, xs, perr, post, s, r, p, _⟩ := hs
  rw [r.len]; exact h xs perr post p
/-! ### own lists -/
section
variable {K : PySem.W.Frag} {dk : Option Addr} {F0 F F' : Addr → Prop} {H0 H H' : Hp} {σ : L2.St} {ρ : Env} {i : Nat}
theorem PInv.ownL (I : PInv K dk F0 H0 F σ H ρ) {xs : List PV} (h : ρ[i]? = some (.own xs)) : ∃ a vs, σ[i]? = some (some (.ref a)) ∧ H a = some (.lst vs) ∧ RepL K dk F H vs xs ∧ OwnAt σ ρ i a := by
  obtain ⟨o, ho, s⟩ := I.slot h
  cases s with
  | own e r => exact ⟨_, _, ho, e, r, _, h, trivial, ho⟩
theorem PInv.chgL (I : PInv K dk F0 H0 F σ H ρ) {a : Addr} {vs ws : List V} {ys : List PV} (o : OwnAt σ ρ i a) (e : H a = some (.lst vs)) (r : RepL K dk F H ws ys) :
    PInv K dk F0 H0 F σ (upd H a (.lst ws)) (ρ.set i (.own ys)) ∧ Grow K F H F (upd H a (.lst ws)) := by
  have k1 : ∀ xs, H a ≠ some (.tup xs) := fun xs z => by rw [e] at z; cases z
  have k2 : ∀ y xs, H a ≠ some (.frz y xs) := fun y xs z => by rw [e] at z; cases z
  obtain ⟨g, st⟩ := I.chg o (u := .lst ws) k1 k2
  exact ⟨I.chgO o k1 k2 (.own upd_same (r.mono g)), g⟩
end
namespace SS
variable {K : PySem.W.Frag}
/-- x.append(e), x an own list -/
def append (i : Nat) (a : SE K) : SS K where
  rd := fun E => tDrop (tBM K "list" rAppend (tVar i) (tCons (a.rd E) tNil))
  wp := fun PE PD ρ => ∃ xs0, ρ[i]? = some (.own xs0) ∧ a.wp PE ρ fun y ρ1 => ∃ xs, ρ1[i]? = some (.own xs) ∧ xs.length < sizeLine ∧ PD.nx (ρ1.set i (.own (xs ++ [y])))
  ok := by
    intro dk F0 H0 F σ H ρ E PE D PD I e d h
    obtain ⟨xs0, h0, h⟩ := h
    obtain ⟨l, vs, hσ, hl, _, _⟩ := I.ownL h0
    refine ⟨_, hσ, .inl ⟨rfl, vs, SqL.of hl⟩, ?_⟩
    refine a.ok I e h fun v H1 F1 y ρ1 g1 I1 r1 h1 => ?_
    obtain ⟨xs, h2, h3, h4⟩ := h1
    obtain ⟨l', vs', hσ', hl', rl, o⟩ := I1.ownL h2
    rw [hσ] at hσ'; cases hσ'
    obtain ⟨I2, g2⟩ := I1.chgL o hl' (rl.app (.one r1))
    exact ⟨l, vs', v, rfl, rfl, hl', by rw [rl.len]; exact h3, d.nx _ _ _ _ (g1.trans g2) I2 h4⟩
end SS
namespace SE
variable {K : PySem.W.Frag}
/-- x.pop(), x an own list -/
def pop (i : Nat) : SE K where
  rd := fun _ => tBM0 K "list" rPop (tVar i)
  wp := fun _ ρ P => ∃ xs y, ρ[i]? = some (.own (xs ++ [y])) ∧ P y (ρ.set i (.own xs))
  ok := by
    intro dk F0 H0 F σ H ρ E PE P Q I e h q
    obtain ⟨xs, y, h0, h⟩ := h
    obtain ⟨l, vs, hσ, hl, rl, o⟩ := I.ownL h0
    have hlen : vs.length = xs.length + 1 := by rw [rl.len, List.length_append]; rfl
    obtain ⟨v, hv, rv⟩ := rl.get2 (i := xs.length) (x := y) (by rw [List.getElem?_append_right (Nat.le_refl _)]; simp)
    have rd := rl.dropLast
    rw [List.dropLast_concat] at rd
    obtain ⟨I2, g2⟩ := I.chgL o hl rd
    refine ⟨_, hσ, .inl ⟨rfl, vs, SqL.of hl⟩, l, vs, v, rfl, rfl, hl, by rw [hlen]; exact hv, ?_⟩
    exact q _ _ _ _ _ g2 I2 (rv.mono g2) h
end SE
end Tw
set_option Elab.async false
set_option linter.all false
set_option maxRecDepth 100000
set_option maxHeartbeats 4000000
/-! The plain layer: operations. -/
namespace Tw
open PySem PySem.Spec PyProof.Rows L2
/-- a scalar -/
def PV.sv : PV → Option V
  | .non => some .non
  | .bl b => some (.bl b)
  | .int i => some (.int i)
  | .str x => some (.str x)
  | _ => none
def cutP {α : Type} (xs : List α) (lo hi : Option Int) : List α := (xs.drop (HT.sIx xs.length 0 lo)).take (HT.sIx xs.length xs.length hi - HT.sIx xs.length 0 lo)
section
variable {K : PySem.W.Frag} {dk : Option Addr} {F0 F : Addr → Prop} {H0 H : Hp} {σ : L2.St} {ρ : Env}
theorem Rep.sv {v w : V} {x : PV} (r : Rep K dk F H v x) (e : x.sv = some w) : v = w := by
  cases r <;> cases e <;> rfl
theorem RepL.cut {vs : List V} {xs : List PV} (r : RepL K dk F H vs xs) (lo hi : Option Int) : RepL K dk F H (cutV vs lo hi) (cutP xs lo hi) := by
  unfold cutV cutP
  rw [r.len]
  exact (r.drop _).take _
theorem RepL.atI {vs : List V} {xs : List PV} {i : Int} {x : PV} (r : RepL K dk F H vs xs) (e : L2.atI xs i = some x) : ∃ v, L2.atI vs i = some v ∧ Rep K dk F H v x := by
  unfold L2.atI at e ⊢
  rw [r.len]
  cases h : ixN xs.length i with
  | none => rw [h] at e; cases e
  | some j => rw [h] at e; exact r.get2 e
theorem RepL.strs {vs : List V} : ∀ {zs : List Str}, RepL K dk F H vs (zs.map .str) → vs = zs.map V.str := by
  induction vs with
  | nil => intro zs r; cases zs with
    | nil => rfl
    | cons z zs => cases r
  | cons v vs ih => intro zs r; cases zs with
    | nil => cases r
    | cons z zs => cases r with | cons a b => cases a; rw [ih b]; rfl
theorem RepL.ofStrs : ∀ (zs : List Str), RepL K dk F H (zs.map V.str) (zs.map .str)
  | [] => .nil
  | z :: zs => .cons (.str z) (RepL.ofStrs zs)
theorem RepL.bools {vs : List V} : ∀ {zs : List Bool}, RepL K dk F H vs (zs.map .bl) → vs = zs.map V.bl := by
  induction vs with
  | nil => intro zs r; cases zs with
    | nil => rfl
    | cons z zs => cases r
  | cons v vs ih => intro zs r; cases zs with
    | nil => cases r
    | cons z zs => cases r with | cons a b => cases a; rw [ih b]; rfl
theorem RepL.ints {vs : List V} : ∀ {zs : List Int}, RepL K dk F H vs (zs.map .int) → vs = zs.map V.int := by
  induction vs with
  | nil => intro zs r; cases zs with
    | nil => rfl
    | cons z zs => cases r
  | cons v vs ih => intro zs r; cases zs with
    | nil => cases r
    | cons z zs => cases r with | cons a b => cases a; rw [ih b]; rfl
end
namespace SO
variable {K : PySem.W.Frag}
/-- + - of ints -/
def i0 (f : Int → Int → Int) : SO K where
  rd := rI0 fun i j => .int (f i j)
  wp := fun x y P => ∃ i j, x = .int i ∧ y = .int j ∧ P (.int (f i j))
  ok := by
    rintro dk F0 H0 F σ H ρ v w x y P Q I r1 r2 ⟨i, j, rfl, rfl, h⟩ q
    cases r1; cases r2
    exact ⟨i, j, rfl, rfl, q _ _ _ _ Grow.refl I (.int _) h⟩
/-- < and the like -/
def c0 (f : Int → Int → Bool) : SO K where
  rd := rI0 fun i j => .bl (f i j)
  wp := fun x y P => ∃ i j, x = .int i ∧ y = .int j ∧ P (.bl (f i j))
  ok := by
    rintro dk F0 H0 F σ H ρ v w x y P Q I r1 r2 ⟨i, j, rfl, rfl, h⟩ q
    cases r1; cases r2
    exact ⟨i, j, rfl, rfl, q _ _ _ _ Grow.refl I (.bl _) h⟩
/-- * // % ** -/
def iC (C : Int → Int → Prop) (f : Int → Int → Int) : SO K where
  rd := rI C fun i j => .int (f i j)
  wp := fun x y P => ∃ i j, x = .int i ∧ y = .int j ∧ C i j ∧ P (.int (f i j))
  ok := by
    rintro dk F0 H0 F σ H ρ v w x y P Q I r1 r2 ⟨i, j, rfl, rfl, c, h⟩ q
    cases r1; cases r2
    exact ⟨i, j, rfl, rfl, c, q _ _ _ _ Grow.refl I (.int _) h⟩
def addS : SO K where
  rd := rAddStr
  wp := fun x y P => ∃ i j, x = .str i ∧ y = .str j ∧ i.length + j.length ≤ sizeLine ∧ P (.str (i ++ j))
  ok := by
    rintro dk F0 H0 F σ H ρ v w x y P Q I r1 r2 ⟨i, j, rfl, rfl, c, h⟩ q
    cases r1; cases r2
    exact ⟨i, j, rfl, rfl, c, q _ _ _ _ Grow.refl I (.str _) h⟩
def repS : SO K where
  rd := rRepStr
  wp := fun x y P => ∃ i j, x = .str i ∧ y = .int j ∧ MulOk i j ∧ P (.str (Txt.mul i j))
  ok := by
    rintro dk F0 H0 F σ H ρ v w x y P Q I r1 r2 ⟨i, j, rfl, rfl, c, h⟩ q
    cases r1; cases r2
    exact ⟨i, j, rfl, rfl, c, q _ _ _ _ Grow.refl I (.str _) h⟩
/-- t + u -/
def catT : SO K where
  rd := rCatA K
  wp := fun x y P => ∃ xs ys, x = .tup xs ∧ y = .tup ys ∧ xs.length + ys.length ≤ sizeLine ∧ P (.tup (xs ++ ys))
  ok := by
    rintro dk F0 H0 F σ H ρ v w x y P Q I r1 r2 ⟨xs, ys, rfl, rfl, c, h⟩ q
    cases r1 with
    | tup s1 l1 =>
      rename_i a vs
      cases r2 with
      | tup s2 l2 =>
        rename_i b ws
        refine ⟨a, b, vs, ws, rfl, rfl, s1, s2, by rw [l1.len, l2.len]; exact c, fun e => ?_, fun _ e => ?_, fun _ _ p hp => ?_⟩
        · subst e
          cases l1
          exact q _ _ _ _ Grow.refl I (.tup s2 l2) (by simpa using h)
        · subst e
          cases l2
          exact q _ _ _ _ Grow.refl I (.tup s1 l1) (by simpa using h)
        · exact q _ _ _ _ (Grow.new hp) (I.new hp) (.tup (SqT.of upd_same) ((l1.app l2).mono (Grow.new hp))) h
/-- x[i] of a text -/
def ixS : SO K where
  rd := rIxS
  wp := fun x y P => ∃ z i c, x = .str z ∧ y = .int i ∧ z.length ≤ sizeLine ∧ L2.atI z.cps.toList i = some c ∧ P (.str ⟨#[c]⟩)
  ok := by
    rintro dk F0 H0 F σ H ρ v w x y P Q I r1 r2 ⟨z, i, c, rfl, rfl, a, b, h⟩ q
    cases r1; cases r2
    exact ⟨z, i, c, rfl, rfl, a, b, q _ _ _ _ Grow.refl I (.str _) h⟩
def ixT : SO K where
  rd := rIxT K
  wp := fun x y P => ∃ xs i u, x = .tup xs ∧ y = .int i ∧ L2.atI xs i = some u ∧ P u
  ok := by
    rintro dk F0 H0 F σ H ρ v w x y P Q I r1 r2 ⟨xs, i, u, rfl, rfl, a, h⟩ q
    cases r1 with
    | tup s1 l1 =>
      cases r2
      obtain ⟨v, hv, rv⟩ := l1.atI a
      exact ⟨_, _, i, v, rfl, rfl, s1, hv, q _ _ _ _ Grow.refl I rv h⟩
def ixL : SO K where
  rd := rIxL K
  wp := fun x y P => ∃ xs i u, x = .lst xs ∧ y = .int i ∧ L2.atI xs i = some u ∧ P u
  ok := by
    rintro dk F0 H0 F σ H ρ v w x y P Q I r1 r2 ⟨xs, i, u, rfl, rfl, a, h⟩ q
    cases r1 with
    | lst f s1 l1 =>
      cases r2
      obtain ⟨v, hv, rv⟩ := l1.atI a
      exact ⟨_, _, i, v, rfl, rfl, SqL.of s1, hv, q _ _ _ _ Grow.refl I rv h⟩
/-- == of scalars -/
def eq : SO K where
  rd := rEq
  wp := fun x y P => ∃ v w, x.sv = some v ∧ y.sv = some w ∧ scal v w = true ∧ P (.bl (decide (v = w)))
  ok := by
    rintro dk F0 H0 F σ H ρ v w x y P Q I r1 r2 ⟨v', w', e1, e2, s, h⟩ q
    rw [r1.sv e1, r2.sv e2]
    exact ⟨s, q _ _ _ _ Grow.refl I (.bl _) h⟩
def ne : SO K where
  rd := rNe
  wp := fun x y P => ∃ v w, x.sv = some v ∧ y.sv = some w ∧ scal v w = true ∧ P (.bl (!decide (v = w)))
  ok := by
    rintro dk F0 H0 F σ H ρ v w x y P Q I r1 r2 ⟨v', w', e1, e2, s, h⟩ q
    rw [r1.sv e1, r2.sv e2]
    exact ⟨s, q _ _ _ _ Grow.refl I (.bl _) h⟩
end SO
/-! ### plain data -/
mutual
def PV.pd : PV → PyData
  | .non => .none
  | .bl b => .bool b
  | .int i => .int i
  | .str x => .str x
  | .tup xs => .tuple (PV.pdL xs)
  | .lst xs => .list (PV.pdL xs)
  | .dic _ => .none
  | .deck => .none
def PV.pdL : List PV → List PyData
  | [] => []
  | x :: xs => PV.pd x :: PV.pdL xs
end
mutual
def PV.plain : PV → Bool
  | .tup xs => PV.plainL xs
  | .lst xs => PV.plainL xs
  | .dic _ => false
  | .deck => false
  | _ => true
def PV.plainL : List PV → Bool
  | [] => true
  | x :: xs => PV.plain x && PV.plainL xs
end
section
variable {K : PySem.W.Frag} {dk : Option Addr} {F : Addr → Prop} {H : Hp}
mutual
theorem Rep.dp : ∀ {v : V} {x : PV}, Rep K dk F H v x → x.plain = true → Dp K H v x.pd
  | _, _, .non, _ => .non
  | _, _, .bl b, _ => .bl b
  | _, _, .int i, _ => .int i
  | _, _, .str x, _ => .str x
  | _, _, .tup s r, h => .tup s (RepL.dp r h)
  | _, _, .lst f e r, h => .lst (SqL.of e) (RepL.dp r h)
  | _, _, .dic f e r, h => by cases h
  | _, _, .deck e, h => by cases h
theorem RepL.dp : ∀ {vs : List V} {xs : List PV}, RepL K dk F H vs xs → PV.plainL xs = true → DpAll K H vs (PV.pdL xs)
  | _, _, .nil, _ => .nil
  | _, _, .cons r t, h => by
    have h' := Bool.and_eq_true_iff.mp h
    exact .cons (Rep.dp r h'.1) (RepL.dp t h'.2)
end
end
namespace SO
variable {K : PySem.W.Frag}
/-- == of data -/
def eqB : SO K where
  rd := rEqB K
  wp := fun x y P => x.plain = true ∧ y.plain = true ∧ x.pd.canLay0 = true ∧ y.pd.canLay0 = true ∧ min x.pd.depth y.pd.depth ≤ 200 ∧ P (.bl (PyData.eqv x.pd y.pd))
  ok := by
    rintro dk F0 H0 F σ H ρ v w x y P Q I r1 r2 ⟨a, b, c, d, e, h⟩ q
    exact ⟨_, _, r1.dp a, r2.dp b, c, d, e, q _ _ _ _ Grow.refl I (.bl _) h⟩
def neB : SO K where
  rd := rNeB K
  wp := fun x y P => x.plain = true ∧ y.plain = true ∧ x.pd.canLay0 = true ∧ y.pd.canLay0 = true ∧ min x.pd.depth y.pd.depth ≤ 200 ∧ P (.bl (!PyData.eqv x.pd y.pd))
  ok := by
    rintro dk F0 H0 F σ H ρ v w x y P Q I r1 r2 ⟨a, b, c, d, e, h⟩ q
    exact ⟨_, _, r1.dp a, r2.dp b, c, d, e, q _ _ _ _ Grow.refl I (.bl _) h⟩
/-- a text in a tuple or list of texts -/
def inS (neg : Bool) : SO K where
  rd := rIn K neg
  wp := fun x y P => ∃ (n : Str) (zs : List Str), x = .str n ∧ (y = .tup (zs.map .str) ∨ y = .lst (zs.map .str)) ∧ P (.bl (neg != decide (n ∈ zs)))
  ok := by
    rintro dk F0 H0 F σ H ρ v w x y P Q I r1 r2 ⟨n, zs, rfl, hy, h⟩ q
    cases r1
    have e : (if neg = true then !inV (.str n) (zs.map V.str) else inV (.str n) (zs.map V.str)) = (neg != decide (n ∈ zs)) := by
      rw [inV_str]; cases neg <;> simp
    rcases hy with rfl | rfl
    · cases r2 with
      | tup s l =>
        have := l.strs; subst this
        exact ⟨_, _, rfl, .inr s, rfl, flat_strs zs, by rw [e]; exact q _ _ _ _ Grow.refl I (.bl _) h⟩
    · cases r2 with
      | lst f s l =>
        have := l.strs; subst this
        exact ⟨_, _, rfl, .inl (SqL.of s), rfl, flat_strs zs, by rw [e]; exact q _ _ _ _ Grow.refl I (.bl _) h⟩
end SO
/-! ### slices -/
/-- a bound of a slice -/
structure SP_ (K : PySem.W.Frag) where
  rd : EK → TO
  wp : PEK → Env → (Option Int → Env → Prop) → Prop
  ok : ∀ {dk F0 H0 F σ H ρ E PE P Q}, PInv K dk F0 H0 F σ H ρ → ErrS K dk F0 H0 F H E PE → wp PE ρ P →
    (∀ b H' F' ρ', Grow K F H F' H' → PInv K dk F0 H0 F' σ H' ρ' → P b ρ' → Q b H') → rd E σ H Q
namespace SP_
variable {K : PySem.W.Frag}
def no : SP_ K where
  rd := fun _ => tNoPart
  wp := fun _ ρ P => P none ρ
  ok := fun I _ h q => q _ _ _ _ Grow.refl I h
def at_ (a : SE K) : SP_ K where
  rd := fun E => tPart (a.rd E)
  wp := fun PE ρ P => a.wp PE ρ fun x ρ1 => ∃ i, x = .int i ∧ P (some i) ρ1
  ok := by
    intro dk F0 H0 F σ H ρ E PE P Q I e h q
    refine a.ok I e h fun v H1 F1 x ρ1 g1 I1 r1 h1 => ?_
    obtain ⟨i, rfl, h1⟩ := h1
    cases r1
    exact ⟨i, rfl, q _ _ _ _ g1 I1 h1⟩
end SP_
namespace SE
variable {K : PySem.W.Frag}
def slS (a : SE K) (lo hi : SP_ K) : SE K where
  rd := fun E => L2.tSl rSlS (a.rd E) (lo.rd E) (hi.rd E)
  wp := fun PE ρ P => a.wp PE ρ fun x ρ1 => lo.wp PE ρ1 fun l ρ2 => hi.wp PE ρ2 fun h ρ3 => ∃ z, x = .str z ∧ z.length ≤ sizeLine ∧ P (.str (cutS z l h)) ρ3
  ok := by
    intro dk F0 H0 F σ H ρ E PE P Q I e h q
    refine a.ok I e h fun v H1 F1 x ρ1 g1 I1 r1 h1 => ?_
    refine lo.ok I1 (e.grow g1) h1 fun l H2 F2 ρ2 g2 I2 h2 => ?_
    refine hi.ok I2 (e.grow (g1.trans g2)) h2 fun u H3 F3 ρ3 g3 I3 h3 => ?_
    obtain ⟨z, rfl, hz, h3⟩ := h3
    cases r1
    exact ⟨z, rfl, hz, q _ _ _ _ _ ((g1.trans g2).trans g3) I3 (.str _) h3⟩
def slT (a : SE K) (lo hi : SP_ K) : SE K where
  rd := fun E => L2.tSl (rSlA K) (a.rd E) (lo.rd E) (hi.rd E)
  wp := fun PE ρ P => a.wp PE ρ fun x ρ1 => lo.wp PE ρ1 fun l ρ2 => hi.wp PE ρ2 fun h ρ3 => ∃ xs, x = .tup xs ∧ P (.tup (cutP xs l h)) ρ3
  ok := by
    intro dk F0 H0 F σ H ρ E PE P Q I e h q
    refine a.ok I e h fun v H1 F1 x ρ1 g1 I1 r1 h1 => ?_
    refine lo.ok I1 (e.grow g1) h1 fun l H2 F2 ρ2 g2 I2 h2 => ?_
    refine hi.ok I2 (e.grow (g1.trans g2)) h2 fun u H3 F3 ρ3 g3 I3 h3 => ?_
    obtain ⟨xs, rfl, h3⟩ := h3
    have r3 := r1.mono (g2.trans g3)
    have g := (g1.trans g2).trans g3
    cases r3 with
    | tup s r =>
      rename_i p vs
      refine ⟨p, vs, rfl, s, fun c => ?_, fun c p hp => ?_⟩
      · refine q _ _ _ _ _ g I3 (.tup s ?_) h3
        have : cutP xs l u = xs := by
          unfold cutP
          rw [← r.len, c.1, c.2, List.drop_zero, r.len, Nat.sub_zero, List.take_length]
        rw [this]; exact r
      · exact q _ _ _ _ _ (g.trans (Grow.new hp)) (I3.new hp) (.tup (SqT.of upd_same) ((r.cut l u).mono (Grow.new hp))) h3
end SE
namespace SN
variable {K : PySem.W.Frag}
def slL (a : SE K) (lo hi : SP_ K) : SN K where
  rd := fun E => L2.tSl (rSlL K) (a.rd E) (lo.rd E) (hi.rd E)
  wp := fun PE ρ P => a.wp PE ρ fun x ρ1 => lo.wp PE ρ1 fun l ρ2 => hi.wp PE ρ2 fun h ρ3 => ∃ xs, x = .lst xs ∧ P (cutP xs l h) ρ3
  ok := by
    intro dk F0 H0 F σ H ρ E PE P Q I e h q
    refine a.ok I e h fun v H1 F1 x ρ1 g1 I1 r1 h1 => ?_
    refine lo.ok I1 (e.grow g1) h1 fun l H2 F2 ρ2 g2 I2 h2 => ?_
    refine hi.ok I2 (e.grow (g1.trans g2)) h2 fun u H3 F3 ρ3 g3 I3 h3 => ?_
    obtain ⟨xs, rfl, h3⟩ := h3
    have r3 := r1.mono (g2.trans g3)
    have g := (g1.trans g2).trans g3
    cases r3 with
    | lst f s r =>
      refine ⟨_, _, rfl, SqL.of s, fun p hp => ?_⟩
      obtain ⟨I4, g4, e4, r4, a1, a2, a3, a4⟩ := I3.laid hp (r.cut l u)
      exact q _ _ _ _ _ _ (g.trans g4) I4 e4 r4 a1 a2 a3 a4 h3
/-- list(x) -/
def listOf (a : SE K) : SN K where
  rd := fun E => tCB (rListOf K) (tCons (a.rd E) tNil)
  wp := fun PE ρ P => a.wp PE ρ fun x ρ1 => ∃ xs, (x = .lst xs ∨ x = .tup xs) ∧ P xs ρ1
  ok := by
    intro dk F0 H0 F σ H ρ E PE P Q I e h q
    refine a.ok I e h fun v H1 F1 x ρ1 g1 I1 r1 h1 => ?_
    obtain ⟨xs, hx, h1⟩ := h1
    rcases hx with rfl | rfl
    · cases r1 with
      | lst f s r =>
        refine ⟨_, _, rfl, .inl (SqL.of s), fun p hp => ?_⟩
        obtain ⟨I4, g4, e4, r4, a1, a2, a3, a4⟩ := I1.laid hp r
        exact q _ _ _ _ _ _ (g1.trans g4) I4 e4 r4 a1 a2 a3 a4 h1
    · cases r1 with
      | tup s r =>
        refine ⟨_, _, rfl, .inr s, fun p hp => ?_⟩
        obtain ⟨I4, g4, e4, r4, a1, a2, a3, a4⟩ := I1.laid hp r
        exact q _ _ _ _ _ _ (g1.trans g4) I4 e4 r4 a1 a2 a3 a4 h1
/-- xs + ys of lists -/
def cat (a b : SE K) : SN K where
  rd := fun E => tOp rCat (a.rd E) (b.rd E)
  wp := fun PE ρ P => a.wp PE ρ fun x ρ1 => b.wp PE ρ1 fun y ρ2 => ∃ xs ys, x = .lst xs ∧ y = .lst ys ∧ xs.length + ys.length ≤ sizeLine ∧ P (xs ++ ys) ρ2
  ok := by
    intro dk F0 H0 F σ H ρ E PE P Q I e h q
    refine a.ok I e h fun v H1 F1 x ρ1 g1 I1 r1 h1 => ?_
    refine b.ok I1 (e.grow g1) h1 fun w H2 F2 y ρ2 g2 I2 r2 h2 => ?_
    obtain ⟨xs, ys, rfl, rfl, hz, h2⟩ := h2
    have r1' := r1.mono g2
    cases r1' with
    | lst f1 s1 l1 =>
      cases r2 with
      | lst f2 s2 l2 =>
        refine ⟨_, _, _, _, rfl, rfl, s1, s2, by rw [l1.len, l2.len]; exact hz, fun p hp => ?_⟩
        obtain ⟨I4, g4, e4, r4, a1, a2, a3, a4⟩ := I2.laid hp (l1.app l2)
        exact q _ _ _ _ _ _ ((g1.trans g2).trans g4) I4 e4 r4 a1 a2 a3 a4 h2
end SN
/-! ### built-in functions -/
namespace SB
variable {K : PySem.W.Frag}
def lenS : SB K where
  rd := rLenStr
  wp := fun xs P => ∃ z, xs = [.str z] ∧ z.length ≤ sizeLine ∧ P (.int z.length)
  ok := by
    rintro dk F0 H0 F σ H ρ vs xs P Q I r ⟨z, rfl, hz, h⟩ q
    cases r with
    | cons a b => cases a; cases b; exact ⟨z, rfl, hz, q _ _ _ _ Grow.refl I (.int _) h⟩
def lenQ : SB K where
  rd := rLenSeq K
  wp := fun xs P => ∃ ys, (xs = [.lst ys] ∨ xs = [.tup ys]) ∧ P (.int ys.length)
  ok := by
    rintro dk F0 H0 F σ H ρ vs xs P Q I r ⟨ys, hx, h⟩ q
    rcases hx with rfl | rfl
    · cases r with
      | cons a b =>
        cases b
        cases a with
        | lst f s l => exact ⟨_, _, rfl, .inl (SqL.of s), by rw [l.len]; exact q _ _ _ _ Grow.refl I (.int _) h⟩
    · cases r with
      | cons a b =>
        cases b
        cases a with
        | tup s l => exact ⟨_, _, rfl, .inr s, by rw [l.len]; exact q _ _ _ _ Grow.refl I (.int _) h⟩
def abs : SB K where
  rd := rAbs
  wp := fun xs P => ∃ i, xs = [.int i] ∧ P (.int (if i < 0 then -i else i))
  ok := by
    rintro dk F0 H0 F σ H ρ vs xs P Q I r ⟨z, rfl, h⟩ q
    cases r with
    | cons a b => cases a; cases b; exact ⟨z, rfl, q _ _ _ _ Grow.refl I (.int _) h⟩
def int1 : SB K where
  rd := rInt1
  wp := fun xs P => (∃ i, xs = [.int i] ∧ P (.int i)) ∨ ∃ k, xs = [.bl k] ∧ P (.int (if k then 1 else 0))
  ok := by
    rintro dk F0 H0 F σ H ρ vs xs P Q I r h q
    rcases h with ⟨i, rfl, h⟩ | ⟨k, rfl, h⟩
    · cases r with
      | cons a b => cases a; cases b; exact .inl ⟨i, rfl, q _ _ _ _ Grow.refl I (.int _) h⟩
    · cases r with
      | cons a b => cases a; cases b; exact .inr ⟨k, rfl, q _ _ _ _ Grow.refl I (.int _) h⟩
def tupleOf : SB K where
  rd := rTupleOf K
  wp := fun xs P => ∃ ys, (xs = [.lst ys] ∨ xs = [.tup ys]) ∧ P (.tup ys)
  ok := by
    rintro dk F0 H0 F σ H ρ vs xs P Q I r ⟨ys, hx, h⟩ q
    rcases hx with rfl | rfl
    · cases r with
      | cons a b =>
        cases b
        cases a with
        | lst f s l => exact ⟨_, _, rfl, .inl ⟨SqL.of s, fun p hp => q _ _ _ _ (Grow.new hp) (I.new hp) (.tup (SqT.of upd_same) (l.mono (Grow.new hp))) h⟩⟩
    · cases r with
      | cons a b =>
        cases b
        cases a with
        | tup s l => exact ⟨_, _, rfl, .inr ⟨s, q _ _ _ _ Grow.refl I (.tup s l) h⟩⟩
def max2 : SB K where
  rd := rMax2
  wp := fun xs P => ∃ i j, xs = [.int i, .int j] ∧ P (.int (if j > i then j else i))
  ok := by
    rintro dk F0 H0 F σ H ρ vs xs P Q I r ⟨i, j, rfl, h⟩ q
    cases r with
    | cons a b => cases b with
      | cons c d => cases a; cases c; cases d; exact ⟨i, j, rfl, q _ _ _ _ Grow.refl I (.int _) h⟩
def min2 : SB K where
  rd := rMin2
  wp := fun xs P => ∃ i j, xs = [.int i, .int j] ∧ P (.int (if j < i then j else i))
  ok := by
    rintro dk F0 H0 F σ H ρ vs xs P Q I r ⟨i, j, rfl, h⟩ q
    cases r with
    | cons a b => cases b with
      | cons c d => cases a; cases c; cases d; exact ⟨i, j, rfl, q _ _ _ _ Grow.refl I (.int _) h⟩
def all_ : SB K where
  rd := rAll K
  wp := fun xs P => ∃ bs : List Bool, xs = [.lst (bs.map .bl)] ∧ P (.bl (bs.all id))
  ok := by
    rintro dk F0 H0 F σ H ρ vs xs P Q I r ⟨bs, rfl, h⟩ q
    cases r with
    | cons a b =>
      cases b
      cases a with
      | lst f s l => exact ⟨_, bs, rfl, by rw [← l.bools]; exact SqL.of s, q _ _ _ _ Grow.refl I (.bl _) h⟩
end SB
/-- the name of a value's type -/
def PV.tyN : PV → Option String
  | .non => some "NoneType"
  | .bl _ => some "bool"
  | .int _ => some "int"
  | .str _ => some "str"
  | .tup _ => some "tuple"
  | .lst _ => some "list"
  | .dic _ => some "dict"
  | .deck => none
theorem Rep.tyX {K : PySem.W.Frag} {dk : Option Addr} {F : Addr → Prop} {H : Hp} {v : V} {x : PV} {t : String} (r : Rep K dk F H v x) (e : x.tyN = some t) : TyX K H v (.type t) := by
  cases r with
  | non => cases e; exact .base .non
  | bl b => cases e; exact .base (.bl b)
  | int i => cases e; exact .base (.int i)
  | str z => cases e; exact .base (.str z)
  | tup s l =>
    cases e
    rcases s with s | s
    · rcases s with s | ⟨o, s⟩
      · exact .base (.tup s)
      · exact .fTuple s
    · obtain ⟨o, its, n, e, c, _⟩ := s
      exact .kTuple e c
  | lst f s l => cases e; exact .base (.lst s)
  | dic f s l => cases e; exact .base (.dK s)
  | deck _ => cases e
namespace SE
variable {K : PySem.W.Frag}
def isi (T : String) (a : SE K) : SE K where
  rd := fun E => tIsi K T (a.rd E)
  wp := fun PE ρ P => a.wp PE ρ fun x ρ1 => ∃ t0 b, x.tyN = some t0 ∧ kitB t0 T = some b ∧ P (.bl b) ρ1
  ok := by
    intro dk F0 H0 F σ H ρ E PE P Q I e h q
    refine a.ok I e h fun v H1 F1 x ρ1 g1 I1 r1 h1 => ?_
    obtain ⟨t0, b, ht, hk, h1⟩ := h1
    exact ⟨v, t0, b, rfl, r1.tyX ht, hk, q _ _ _ _ _ g1 I1 (.bl _) h1⟩
end SE
/-! ### what is walked -/
section
variable {K : PySem.W.Frag} {dk : Option Addr} {F : Addr → Prop} {H : Hp}
theorem walkL {a : Addr} {vs : List V} {xs : List PV} (f : F a) (e : H a = some (.lst vs)) (r : RepL K dk F H vs xs) : WalkOk K dk F H (Itl K a) xs := by
  refine ⟨fun H' => SqL K H' a vs, YAt vs, by rw [← r.len]; exact walk_list, fun F' H' g => SqL.of (g.keep _ _ f e), ?_⟩
  rintro i F' H' v H'' hi g ⟨rfl, hv⟩
  obtain ⟨x, hx, rx⟩ := r.get hv
  exact ⟨.inl rfl, x, hx, rx.mono g⟩
theorem walkT {a : Addr} {vs : List V} {xs : List PV} (e : SqT K H a vs) (r : RepL K dk F H vs xs) : WalkOk K dk F H (Itt K a) xs := by
  refine ⟨fun H' => SqT K H' a vs, YAt vs, by rw [← r.len]; exact walk_tup, fun F' H' g => g.tup _ _ e, ?_⟩
  rintro i F' H' v H'' hi g ⟨rfl, hv⟩
  obtain ⟨x, hx, rx⟩ := r.get hv
  exact ⟨.inl rfl, x, hx, rx.mono g⟩
end
namespace SI
variable {K : PySem.W.Frag}
def list (a : SE K) : SI K where
  rd := fun E => iList K (a.rd E)
  wp := fun PE ρ P => a.wp PE ρ fun x ρ1 => ∃ xs, x = .lst xs ∧ P xs ρ1
  ok := by
    intro dk F0 H0 F σ H ρ E PE P R I e h q
    refine a.ok I e h fun v H1 F1 x ρ1 g1 I1 r1 h1 => ?_
    obtain ⟨xs, rfl, h1⟩ := h1
    cases r1 with
    | lst f s l => exact ⟨_, rfl, ⟨_, SqL.of s⟩, q _ _ _ _ _ g1 I1 (walkL f s l) h1⟩
def tup (a : SE K) : SI K where
  rd := fun E => iTup K (a.rd E)
  wp := fun PE ρ P => a.wp PE ρ fun x ρ1 => ∃ xs, x = .tup xs ∧ P xs ρ1
  ok := by
    intro dk F0 H0 F σ H ρ E PE P R I e h q
    refine a.ok I e h fun v H1 F1 x ρ1 g1 I1 r1 h1 => ?_
    obtain ⟨xs, rfl, h1⟩ := h1
    cases r1 with
    | tup s l => exact ⟨_, rfl, ⟨_, s⟩, q _ _ _ _ _ g1 I1 (walkT s l) h1⟩
end SI
end Tw
set_option Elab.async false
set_option linter.all false
set_option maxRecDepth 100000
set_option maxHeartbeats 4000000
/-! errors with two fields; an error without fields that a clause raises from None -/
namespace Tw
open PySem PySem.Spec PyProof.Rows L2
section
variable {X : Cx} {x : Str} {C : Addr} {k : Nat} {f g : Str} {e e2 : Expr} {te tf : TE} {p pos : Pos}
/-- C() in a clause, C without an __init__ -/
theorem pmk5_own0 {bmB : List Value} {B newId initId : String} (F : ExcBaseFacts B newId initId bmB) (q : PySem.W.excIn X.K C bmB newId = true) (gC : X.mg x = some (.ref C)) (kC : PySem.W.keepIn X.K (.ref C) = true) (r : Raises X (.ref C)) (hg : Gl X x)
    (hdb : (x == ("__debug__" : Str)) = false := by decide) : L2H.PMk5 X (.Call (.Name x p) [] [] pos) (fun _ H Q => Q (.ref C) none H) := by
  intro pins s σ H Q I h
  refine wpAny_Call_Name_kw (ld_glob I hg gC ?_ hdb)
  refine PySem.W.callWith_K0 I.kIn kC ?_
  obtain ⟨bm, N, nm, qn, bs, hdct, sn, sub, ab, col, dd, k0, k1, k2, k3, k5, mN, hC, hN, hni, T⟩ := exc_obj I.kIn q
  exact wpAny_call_exc_subT F T hC hN hni (fun h' e hm => L2H.mk_of5 I hm r h (I.hok.gone hm.new)) (Nat.zero_le _)
/-! ### two fields -/
/-- C(x, y), C's own __init__ storing them under f, then g -/
def tMk2 (C : Addr) (f g : Str) (te tf : TE) : L2.St → Hp → XK → Prop := fun σ H Q => te σ H fun v H1 => tf σ H1 fun u H2 => ∀ d, H2 d = none → Q (.ref C) (some d) (upd H2 d (.xd [(g, u), (f, v)]))
def sp_init2 (K : PySem.W.Frag) (C : Addr) (f g : Str) : Sp := fun vs H Q _ => ∃ a v u, vs = [.ref a, v, u] ∧ OexC K C ∧ PySem.W.findIn K (.ref C) f = some none ∧ PySem.W.findIn K (.ref C) g = some none ∧ H a = some (exo a C none) ∧
  ∀ dx, H dx = none → dx ≠ a → Q .non (upd (upd (upd H dx (exd dx [(f, v)])) a (exo a C (some dx))) dx (exd dx [(g, u), (f, v)]))
def t_init2 (K : PySem.W.Frag) (f g : Str) : TS := tSeq (tOst K f (tVar 0) (tVar 1)) (tOst K g (tVar 0) (tVar 2))
theorem len_init2 {K : PySem.W.Frag} (vs : List V) (H : Hp) (Q : VK) (E : XK) (h : sp_init2 K C f g vs H Q E) : vs.length = 3 := by
  obtain ⟨_, _, _, rfl, _⟩ := h; rfl
theorem pure_init2 {K : PySem.W.Frag} (vs : List V) (H : Hp) (Q : VK) (E : XK) (h : sp_init2 K C f g vs H Q E) : t_init2 K f g { nx := fun _ H' => Q .non H', rt := Q } (startN 3 vs) H := by
  obtain ⟨a, v, u, rfl, T, hf, hg, ha, q⟩ := h
  show t_init2 K f g _ [some (.ref a), some v, some u] H
  unfold t_init2
  refine ⟨v, rfl, .ref a, rfl, a, C, rfl, T, hf, .inl ⟨ha, fun dx hdx hne => ?_⟩⟩
  refine ⟨u, rfl, .ref a, rfl, a, C, rfl, T, hg, .inr ⟨dx, [(f, v)], upd_same, ?_, by simp, q dx hdx hne⟩⟩
  rw [upd_ne hne, upd_same]
structure Cls2 (P : Program) (w : World) (K : PySem.W.Frag) (mg : Str → Option Value) (base : Heap) (x f g : Str) (C : Addr) (k : Nat) : Prop where
  oex : OexC K C
  exc : ExcC K C
  xf : XfC K C
  no : PySem.W.findIn K (.ref C) f = some none
  no2 : PySem.W.findIn K (.ref C) g = some none
  glob : mg x = some (.ref C)
  init : ∃ (fI : Addr) (fd : FuncData) (ps : List Str), PySem.W.findIn K (.ref C) "__init__" = some (some (.ref fI)) ∧ PySem.W.typeIn K (.ref fI) = some (.type "function") ∧ FnOk P w K mg base CX0 k fI fd ps (sp_init2 K C f g) ∧ Binds K fd ps []
theorem mk2_of {K : PySem.W.Frag} (T : OexC K C) (hf : PySem.W.findIn K (.ref C) f = some none) (hg : PySem.W.findIn K (.ref C) g = some none) {σ : L2.St} {H : Hp} {Q : XK} (h : tMk2 C f g te tf σ H Q) (m1 : Mono te) (m2 : Mono tf) :
    tMkO C (sp_init2 K C f g) [] (tCons te (tCons tf tNil)) σ H Q := by
  unfold tMkO
  show te σ H fun v H1 => tf σ H1 fun u H2 => _
  refine m1 _ _ _ _ (fun v H1 q1 => m2 _ _ _ _ (fun u H2 q => ?_) q1) h
  show 2 ≤ 1000 ∧ _
  refine ⟨by decide, fun a ha => ⟨a, v, u, rfl, T, hf, hg, upd_same, fun dx hdx hne => ⟨rfl, dx, [(g, u), (f, v)], ?_, upd_same, ?_, ?_⟩⟩⟩
  · rw [upd_ne hne.symm, upd_same]
  · rw [upd_ne hne] at hdx; exact hdx
  · have hdx1 : H2 dx = none := by rw [upd_ne hne] at hdx; exact hdx
    have e : upd (del (upd (upd (upd (upd H2 a (exo a C none)) dx (exd dx [(f, v)])) a (exo a C (some dx))) dx (exd dx [(g, u), (f, v)])) a) dx (.xd [(g, u), (f, v)]) = upd H2 dx (.xd [(g, u), (f, v)]) := by
      funext b
      by_cases hb : b = dx
      · rw [hb, upd_same, upd_same]
      · rw [upd_ne hb, upd_ne hb]
        by_cases hba : b = a
        · rw [hba, del_same, ha]
        · rw [del_ne hba, upd_ne hb, upd_ne hba, upd_ne hb, upd_ne hba]
    rw [e]
    exact q dx hdx1
theorem pmk2 (c : Cls2 X.prog X.w X.K X.mg X.base x f g C k) (hr : Room (k + 1) X.A) (hg : Gl X x) (he : PE X e te) (he2 : PE X e2 tf) (hm : Mono te) (hm2 : Mono tf) (hdb : (x == ("__debug__" : Str)) = false := by decide)
    (hs : starEach [e, e2] X.env = (false, eval e X.env) :: starEach [e2] X.env := by rfl) (hs2 : starEach [e2] X.env = (false, eval e2 X.env) :: starEach [] X.env := by rfl) (hpl : (backTo pos (starEach [e2] X.env)).any (·.1) = false := by rfl) : PMk X (.Call (.Name x p) [e, e2] [] pos) (tMk2 C f g te tf) := by
  obtain ⟨fI, fd, ps, iC, tI, F1, b⟩ := c.init
  intro pins s σ H Q I h
  exact pmk_oex c.oex iC tI F1 hr b .nil pass0 hg c.glob (pa_cons he (pa_cons he2 pa_nil hs2) hs) hdb hs hpl pins s σ H Q I (mk2_of c.oex c.no c.no2 h hm hm2)
end
end Tw
set_option Elab.async false
set_option linter.all false
set_option maxRecDepth 100000
set_option maxHeartbeats 4000000
/-! The plain layer: errors. -/
namespace Tw
open PySem PySem.Spec PyProof.Rows L2
section
variable {K : PySem.W.Frag} {dk : Option Addr} {F0 F F1 F2 : Addr → Prop} {H0 H H1 H2 : Hp} {E : EK} {PE : PEK} {σ : L2.St} {ρ : Env}
/-- the slot of an error at hand -/
theorem PInv.setE (I : PInv K dk F0 H0 F σ H ρ) {i : Nat} {a : Addr} {d : Option Addr} {er : PErr} (h : ErrAt K dk F H d er.2) : PInv K dk F0 H0 F (σ.set i (some (.ref a))) H (ρ.set i (.err a d er)) := by
  have hl : ∀ j b, OwnAt (σ.set i (some (.ref a))) (ρ.set i (.err a d er)) j b → OwnAt σ ρ j b := by
    rintro j b ⟨s, hs, hw, e⟩
    rw [getE_set] at hs e
    by_cases hij : i = j
    · rw [if_pos hij] at hs
      split at hs
      · cases hs; cases hw
      · cases hs
    · rw [if_neg hij] at hs e
      exact ⟨s, hs, hw, e⟩
  refine ⟨I.st, by simp [I.len], fun j s o hs ho => ?_, fun j k b h1 h2 => I.dis j k b (hl j b h1) (hl k b h2), fun j b h => I.fresh j b (hl j b h)⟩
  rw [getE_set] at hs ho
  by_cases hij : i = j
  · rw [if_pos hij] at hs ho
    split at hs
    · cases hs
      split at ho
      · cases ho; exact .err h
      · cases ho
    · cases hs
  · rw [if_neg hij] at hs ho
    exact I.sl j s o hs ho
/-- the dict of an error is kept from now on -/
theorem PInv.keepE (I : PInv K dk F0 H0 F σ H ρ) {d : Option Addr} {fv : List (Str × V)} {fs : List (Str × PV)} (r : RepF K dk F H fv fs) (e : ErrD H0 F H d fv) :
    ∃ F', PInv K dk F0 H0 F' σ H ρ ∧ Grow K F H F' H ∧ ErrAt K dk F' H d fs := by
  rcases e with ⟨rfl, rfl⟩ | ⟨a, rfl, h1, h2, h3⟩
  · cases r
    exact ⟨F, I, Grow.refl, .inl ⟨rfl, rfl⟩⟩
  · have hd : dk ≠ some a := fun e => by
      obtain ⟨x, y, z, q⟩ := I.st.deck a e
      rw [h1] at q; cases q
    have ho : ∀ i, ¬ OwnAt σ ρ i a := by
      rintro i ⟨s, hs, hw, e⟩
      have := I.sl i s _ hs e
      cases this with
      | no => cases hw
      | val => cases hw
      | own e _ => rw [h1] at e; cases e
      | ownD e _ => rw [h1] at e; cases e
      | err => cases hw
    obtain ⟨I2, g2⟩ := I.intoF ⟨h2, h3⟩ h1 hd ho
    exact ⟨_, I2, g2, .inr ⟨a, fv, rfl, .inr rfl, h1, r.mono g2⟩⟩
end
namespace SS
variable {K : PySem.W.Frag}
/-- raise C() -/
def raise0 (C : Addr) : SS K where
  rd := fun E D σ H => tRaise (E σ) (fun _ H Q => Q (.ref C) none H) D σ H
  wp := fun PE _ ρ => PE ρ (C, [])
  ok := fun I e _ h => e _ _ _ _ C none [] [] Grow.refl I .nil (.inl ⟨rfl, rfl⟩) h
/-- raise C(x) -/
def raise1 (C : Addr) (f : Str) (a : SE K) : SS K where
  rd := fun E D σ H => tRaise (E σ) (tMk1 C f (a.rd E)) D σ H
  wp := fun PE _ ρ => a.wp PE ρ fun x ρ1 => PE ρ1 (C, [(f, x)])
  ok := by
    intro dk F0 H0 F σ H ρ E PE D PD I e d h
    refine a.ok I e h fun v H1 F1 x ρ1 g1 I1 r1 h1 => ?_
    intro p hp
    have fo := I1.st.freshOf hp
    exact e _ _ _ _ C (some p) [(f, v)] [(f, x)] (g1.trans (Grow.new hp)) (I1.new hp) (.cons (r1.mono (Grow.new hp)) .nil) (.inr ⟨p, rfl, upd_same, fo.1, fo.2⟩) h1
/-- raise C(x, y): the fields f, g -/
def raise2 (C : Addr) (f g : Str) (a b : SE K) : SS K where
  rd := fun E D σ H => tRaise (E σ) (tMk2 C f g (a.rd E) (b.rd E)) D σ H
  wp := fun PE _ ρ => a.wp PE ρ fun x ρ1 => b.wp PE ρ1 fun y ρ2 => PE ρ2 (C, [(g, y), (f, x)])
  ok := by
    intro dk F0 H0 F σ H ρ E PE D PD I e d h
    refine a.ok I e h fun v H1 F1 x ρ1 g1 I1 r1 h1 => ?_
    refine b.ok I1 (e.grow g1) h1 fun w H2 F2 y ρ2 g2 I2 r2 h2 => ?_
    intro p hp
    have fo := I2.st.freshOf hp
    exact e _ _ _ _ C (some p) [(g, w), (f, v)] [(g, y), (f, x)] ((g1.trans g2).trans (Grow.new hp)) (I2.new hp) (.cons (r2.mono (Grow.new hp)) (.cons ((r1.mono g2).mono (Grow.new hp)) .nil)) (.inr ⟨p, rfl, upd_same, fo.1, fo.2⟩) h2
/-- try: body except C: cl -/
def tryO (C : Addr) (body cl : SS K) : SS K where
  rd := fun E D σ H => body.rd (WE (wOnly K (.ref C) (fun _ _ _ => cl.rd E) (fun cls d σ H => E σ cls d H) D)) D σ H
  wp := fun PE PD ρ => body.wp (fun ρ1 er => ∃ b, PySem.W.exmOne K (.ref er.1) (.ref C) = some b ∧ (b = true → cl.wp PE PD ρ1) ∧ (b = false → PE ρ1 er)) PD ρ
  ok := by
    intro dk F0 H0 F σ H ρ E PE D PD I e d h
    refine body.ok I (fun F' σ' H' ρ' C' d' fv fs g I' r ed p => ?_) d h
    obtain ⟨b, hb, h1, h2⟩ := p
    refine ⟨b, hb, fun hb1 a ha => ?_, fun hb2 => e _ _ _ _ _ _ _ _ g I' r ed (h2 hb2)⟩
    exact cl.ok I' (e.grow g) (d.grow g) (h1 hb1)
/-- try: body except C as x: cl; x is slot i -/
def tryA (C : Addr) (i : Nat) (body : SS K) (cl : Addr → Value → Option Addr → SS K) : SS K where
  rd := fun E D σ H => body.rd (WE (wAs K (.ref C) i (fun a cls d => (cl a cls d).rd E) (fun cls d σ H => E σ cls d H) D)) D σ H
  wp := fun PE PD ρ => body.wp (fun ρ1 er => ∃ b, PySem.W.exmOne K (.ref er.1) (.ref C) = some b ∧
    (b = true → ∀ a d, (cl a (.ref er.1) d).wp PE { nx := fun ρ' => PD.nx (ρ'.set i .no), rt := PD.rt, bk := fun ρ' => PD.bk (ρ'.set i .no), ct := fun ρ' => PD.ct (ρ'.set i .no) } (ρ1.set i (.err a d er))) ∧ (b = false → PE ρ1 er)) PD ρ
  ok := by
    intro dk F0 H0 F σ H ρ E PE D PD I e d h
    refine body.ok I (fun F' σ' H' ρ' C' d' fv fs g I' r ed p => ?_) d h
    obtain ⟨b, hb, h1, h2⟩ := p
    refine ⟨b, hb, fun hb1 a ha => ?_, fun hb2 => e _ _ _ _ _ _ _ _ g I' r ed (h2 hb2)⟩
    obtain ⟨F2, I2, g2, ea⟩ := I'.keepE r ed
    have g12 := g.trans g2
    refine (cl a (.ref C') d').ok (I2.setE (i := i) (a := a) (er := (C', fs)) ea) (e.grow g12) ⟨?_, ?_, ?_, ?_⟩ (h1 hb1 a d')
    · exact fun F3 σ3 H3 ρ3 g3 I3 h3 => d.nx _ _ _ _ (g12.trans g3) I3.setN h3
    · exact d.rt
    · exact fun F3 σ3 H3 ρ3 g3 I3 h3 => d.bk _ _ _ _ (g12.trans g3) I3.setN h3
    · exact fun F3 σ3 H3 ρ3 g3 I3 h3 => d.ct _ _ _ _ (g12.trans g3) I3.setN h3
end SS
/-- what several clauses do, one after the other -/
def wpMany {K : PySem.W.Frag} (PE : PEK) (PD : PEnds) : List (Addr × SS K) → PEK
  | [] => PE
  | (C, cl) :: r => fun ρ1 er => ∃ b, PySem.W.exmOne K (.ref er.1) (.ref C) = some b ∧ (b = true → cl.wp PE PD ρ1) ∧ (b = false → wpMany PE PD r ρ1 er)
namespace SS
variable {K : PySem.W.Frag}
def tryM (body : SS K) (l : List (Addr × SS K)) : SS K where
  rd := fun E D σ H => body.rd (WE (wMany K (fun cls d σ H => E σ cls d H) D (l.map fun c => (.ref c.1, fun _ _ _ => c.2.rd E)))) D σ H
  wp := fun PE PD ρ => body.wp (wpMany PE PD l) PD ρ
  ok := by
    intro dk F0 H0 F σ H ρ E PE D PD I e d h
    refine body.ok I (fun F' σ' H' ρ' C' d' fv fs g I' r ed p => ?_) d h
    have hm : ∀ l : List (Addr × SS K), wpMany PE PD l ρ' (C', fs) → wMany K (fun cls d σ H => E σ cls d H) D (l.map fun c => (.ref c.1, fun _ _ _ => c.2.rd E)) (.ref C') d' σ' H' := by
      intro l
      induction l with
      | nil => exact fun p => e _ _ _ _ _ _ _ _ g I' r ed p
      | cons c l ih =>
        rintro ⟨b, hb, h1, h2⟩
        exact ⟨b, hb, fun hb1 a ha => c.2.ok I' (e.grow g) (d.grow g) (h1 hb1), fun hb2 => ih (h2 hb2)⟩
    exact hm l p
end SS
namespace SE
variable {K : PySem.W.Frag}
/-- e.f of the error at hand -/
def xf (a : Addr) (cls : Value) (d : Option Addr) (C : Addr) (f : Str) (i : Nat) : SE K where
  rd := fun _ => tXf a cls d C f (tVar i)
  wp := fun _ ρ P => ∃ er x, ρ[i]? = some (.err a d er) ∧ cls = .ref C ∧ er.2.lookup f = some x ∧ P x ρ
  ok := by
    intro dk F0 H0 F σ H ρ E PE P Q I e h q
    obtain ⟨er, x, hi, hc, hl, h⟩ := h
    obtain ⟨o, ho, s⟩ := I.slot hi
    cases s with
    | err ea =>
      rcases ea with ⟨_, e2⟩ | ⟨p, fv, rfl, fp, hp, r⟩
      · rw [e2] at hl; cases hl
      · obtain ⟨v, hv, rv⟩ := r.get hl
        exact ⟨_, ho, rfl, hc, p, fv, v, rfl, hp, hv, q _ _ _ _ _ Grow.refl I rv h⟩
/-- isinstance(e, X) of the error at hand (with fields) -/
def isE (a : Addr) (cls : Value) (d : Option Addr) (C X : Addr) (i : Nat) : SE K where
  rd := fun _ => tCB (rIsD K C cls d a) (tCons (tVar i) (tCons (tC (.ref X)) tNil))
  wp := fun _ ρ P => ∃ er b, ρ[i]? = some (.err a d er) ∧ er.2 ≠ [] ∧ cls = .ref C ∧ PySem.W.kitOne K (.ref C) (.ref X) = some b ∧ P (.bl b) ρ
  ok := by
    intro dk F0 H0 F σ H ρ E PE P Q I e h q
    obtain ⟨er, b, hi, hn, hc, hk, h⟩ := h
    obtain ⟨o, ho, s⟩ := I.slot hi
    cases s with
    | err ea =>
      rcases ea with ⟨_, e2⟩ | ⟨p, fv, rfl, fp, hp, r⟩
      · exact absurd e2 hn
      · exact ⟨_, ho, .ref X, .ref X, b, rfl, hc, ⟨p, fv, rfl, hp⟩, fun u z => z, hk, q _ _ _ _ _ Grow.refl I (.bl _) h⟩
end SE
end Tw
set_option Elab.async false
set_option linter.all false
set_option maxRecDepth 100000
set_option maxHeartbeats 4000000
/-! the laws' own way to skeletons and gaps -/
namespace Tw
open PySem PySem.Spec PyProof.Rows L2 TL
local macro_rules | `(tactic| walk_at "rd") => `(tactic| try simp only [o_op, o_un, o_var, o_c, o_cb, o_call, o_cons, o_nil, o_tup, o_lst, o_I0, o_I, o_int1, o_intb, o_abs, o_test, o_b, o_not, o_and, o_or, o_andV, o_orV, o_notV, o_ifE, o_isN, o_notN, o_eq, o_ne, o_seq, o_next, o_asg, o_name, o_sub, o_par, o_par3, o_drop, o_ret, o_retN, o_ifS, o_sl, o_noPart, o_part, o_bm, o_bm0, o_m0, o_m1, o_dget, o_dput, o_din, o_dnotin, o_listKeys, e_bl, e_int, e_str, e_some, e_two, e_three, o_for, o_lc, o_iList, o_iTup, o_iRng1, e_int1, e_ref, o_yes, o_wipe0, o_wipe1, o_disp, o_dnew, o_pairs0, o_pairs1, o_lock, o_keysM, o_gtup, o_gcons, o_gnil, o_rU, o_tru, o_revT, o_enumT, o_from, true_and, if_pos, List.getElem?_cons_zero, List.getElem?_cons_succ, List.set_cons_zero, List.set_cons_succ, List.append_nil])
def sp_l_from_row (K : PySem.W.Frag) : Sp := fun vs H Q _ => ∃ (a : Addr) (f : Fo), vs = [.ref a] ∧ SqT K H a (f.row.map V.str) ∧ NameOk f ∧ ∀ p H', Kp H H' → WoodAt K H' p f → Q (.ref p) H'
def sp_l_skeleton (K : PySem.W.Frag) : Sp := fun vs H Q _ => ∃ (r t : Addr) (es : List En) (zs : List Str), vs = [.ref r, .ref t] ∧ SqT K H r (es.map (V.str ∘ en)) ∧ SqT K H t (zs.map V.str) ∧ es.length ≤ 2000 ∧ (∀ e ∈ es, IsName e.2) ∧ ∀ p H', Kp H H' → SqT K H' p ((es.filter fun e => decide (e.2 ∈ zs)).map (V.str ∘ en)) → Q (.ref p) H'
def sp_l_gaps (K : PySem.W.Frag) : Sp := fun vs H Q _ => ∃ (r t : Addr) (es : List En) (zs : List Str), vs = [.ref r, .ref t] ∧ SqT K H r (es.map (V.str ∘ en)) ∧ SqT K H t (zs.map V.str) ∧ es.length ≤ 2000 ∧ (∀ e ∈ es, IsName e.2) ∧ ∀ p H', Kp H H' → GapsAt K H' p (gapL zs es []) → Q (.ref p) H'
def sp_l_chosen (K : PySem.W.Frag) : Sp := fun vs H Q _ => ∃ (d l : Addr) (zs : List Str), vs = [.ref d, .ref l] ∧ DeckAt H d ∧ H l = some (.lst (zs.map V.str)) ∧ l ≠ d ∧ zs.Nodup ∧ zs.length ≤ 1000 ∧ ∀ (p : Addr) (cs : List Str) (H' : Hp), Dk d H H' → SqT K H' p (cs.map V.str) → cs.Nodup → (∀ z ∈ cs, z ∈ zs) → Q (.ref p) H'
def t_l_from_row_b1 (K : PySem.W.Frag) : TS :=
  (tIfS (tTest (tOp rEq (tOp rIxS (tVar 2) (tC (.int 0))) (tC (.str "+")))) (tDrop (tBM K "list" rAppend (tVar 1) (tCons (tTup (tCons (L2.tSl rSlS (tVar 2) (tPart (tC (.int 1))) tNoPart) (tCons (tTup tNil) tNil))) tNil))) (tSeq (tAsg (tBM0 K "list" rPop (tVar 1)) (gName 3))
  (tSeq (tAsg (tBM0 K "list" rPop (tVar 1)) (gTup K 2 (gCons (gName 4) (gCons (gName 5) gNil))))
  (tDrop (tBM K "list" rAppend (tVar 1) (tCons (tTup (tCons (tVar 4) (tCons (tOp (rCatA K) (tVar 5) (tTup (tCons (tVar 3) tNil))) tNil))) tNil))))))
def t_l_from_row (K : PySem.W.Frag) : TS :=
  (tSeq (tAsg (tLst (tCons (tTup (tCons (tC (.str "")) (tCons (tTup tNil) tNil))) tNil)) (gName 1))
  (tSeq (tFor (iTup K (tVar 0)) (gName 2)
  (t_l_from_row_b1 K))
  (tRet (tOp (rIxT K) (tOp (rIxL K) (tVar 1) (tC (.int 0))) (tC (.int 1))))))
def t_l_skeleton (K : PySem.W.Frag) : TS :=
  (tRet (tCB (rTupleOf K) (tCons (tLc (iTup K (tVar 0)) (gName 2) (tTest (tOp (rIn K false) (L2.tSl rSlS (tVar 2) (tPart (tC (.int 1))) tNoPart) (tVar 1))) (tVar 2) [2]) tNil)))
def t_l_gaps_b1 (K : PySem.W.Frag) : TS :=
  (tIfS (tTest (tOp (rIn K false) (L2.tSl rSlS (tVar 4) (tPart (tC (.int 1))) tNoPart) (tVar 1))) (tPar 2 3 (tCons (tOp (rCatA K) (tVar 2) (tTup (tCons (tVar 3) tNil))) (tCons (tTup tNil) tNil))) (tAsg (tOp (rCatA K) (tVar 3) (tTup (tCons (tVar 4) tNil))) (gName 3)))
def t_l_gaps (K : PySem.W.Frag) : TS :=
  (tSeq (tAsg (tTup (tCons (tTup tNil) (tCons (tTup tNil) tNil))) (gTup K 2 (gCons (gName 2) (gCons (gName 3) gNil))))
  (tSeq (tFor (iTup K (tVar 0)) (gName 4)
  (t_l_gaps_b1 K))
  (tRet (tOp (rCatA K) (tVar 2) (tTup (tCons (tVar 3) tNil))))))
def t_l_chosen_b1 (K : PySem.W.Frag) : TS :=
  (tIfS (tOr (tTest (tOp rEq (tVar 2) (tC (.int 4)))) (tAnd (tTest (tOp (rI0 fun i j => .bl (decide (i < j))) (tVar 2) (tC (.int 3)))) (tTest (tOp rEq (tCall sp_l_draw [] E0 (tCons (tVar 0) (tCons (tOp (rI0 fun i j => .int (i + j)) (tC (.int 2)) (tVar 2)) tNil))) (tC (.int 0)))))) (tDrop (tBM K "list" rInsert (tVar 3) (tCons (tCall sp_l_draw [] E0 (tCons (tVar 0) (tCons (tOp (rI0 fun i j => .int (i + j)) (tCB (rLenSeq K) (tCons (tVar 3) tNil)) (tC (.int 1))) tNil))) (tCons (tVar 4) tNil)))) tNext)
def t_l_chosen (K : PySem.W.Frag) : TS :=
  (tSeq (tPar 2 3 (tCons (tCall sp_l_draw [] E0 (tCons (tVar 0) (tCons (tC (.int 5)) tNil))) (tCons (tLst tNil) tNil)))
  (tSeq (tFor (iList K (tVar 1)) (gName 4)
  (t_l_chosen_b1 K))
  (tRet (tCB (rTupleOf K) (tCons (tVar 3) tNil)))))
/-- the entries that are open: "" with what is done at the top, each open node with what is done in it -/
def ent : List (Fo × Str) → Fo → Fo
  | [], c => .cons "" c .nil
  | z :: zs, c => (ent zs z.1).app (.cons z.2 c .nil)
theorem ent_last : ∀ zs : List (Fo × Str), ∃ (X : Fo) (m : Str), ∀ d, ent zs d = X.app (.cons m d .nil)
  | [] => ⟨.nil, "", fun _ => rfl⟩
  | z :: zs => ⟨ent zs z.1, z.2, fun _ => rfl⟩
theorem ent_len : ∀ (zs : List (Fo × Str)) (c : Fo), (ent zs c).tops.length = zs.length + 1
  | [], _ => rfl
  | z :: zs, c => by rw [ent, Fo.tops_app, List.length_append, ent_len zs]; rfl
section
variable {K : PySem.W.Frag}
theorem len_l_from_row (vs : List V) (H : Hp) (Q : VK) (E : XK) (h : sp_l_from_row K vs H Q E) : vs.length = 1 := by
  obtain ⟨_, _, rfl, _⟩ := h; rfl
theorem len_l_skeleton (vs : List V) (H : Hp) (Q : VK) (E : XK) (h : sp_l_skeleton K vs H Q E) : vs.length = 2 := by
  obtain ⟨_, _, _, _, rfl, _⟩ := h; rfl
theorem len_l_gaps (vs : List V) (H : Hp) (Q : VK) (E : XK) (h : sp_l_gaps K vs H Q E) : vs.length = 2 := by
  obtain ⟨_, _, _, _, rfl, _⟩ := h; rfl
theorem len_l_chosen (vs : List V) (H : Hp) (Q : VK) (E : XK) (h : sp_l_chosen K vs H Q E) : vs.length = 2 := by
  obtain ⟨_, _, _, rfl, _⟩ := h; rfl
/-- the last of trees -/
theorem Rp.last {H : Hp} {vs : List V} {X c : Fo} {n : Str} (h : Rp K H vs (X.app (.cons n c .nil))) : ∃ u t k kvs, vs = u ++ [.ref t] ∧ Rp K H u X ∧ SqT K H t [.str n, .ref k] ∧ SqT K H k kvs ∧ Rp K H kvs c := by
  obtain ⟨u, v2, rfl, r1, r2⟩ := h.split
  cases r2 with
  | @cons t k _ kvs _ _ _ a b cc d =>
    cases d
    exact ⟨u, t, k, kvs, rfl, r1, a, b, cc⟩
theorem pure_l_from_row (vs : List V) (H : Hp) (Q : VK) (E : XK) (h : sp_l_from_row K vs H Q E) : t_l_from_row K { nx := fun _ H' => Q .non H', rt := Q } (startN 6 vs) H := by
  obtain ⟨a, f, rfl, ha, hf, q⟩ := h
  show t_l_from_row K _ [some (.ref a), none, none, none, none, none] H
  unfold t_l_from_row
  have hz := sizeLine_eq
  have hsz := hf.sz
  walk_at "rd"
  refine ⟨Nat.zero_le _, fun e0 he0 => ?_⟩
  generalize hG : upd H e0 _ = H1
  obtain ⟨k1, e1⟩ := gen_new he0 hG
  clear hG
  refine ⟨by show 2 ≤ sizeLine; omega, fun t0 ht0 => ?_⟩
  generalize hG : upd H1 t0 _ = H2
  obtain ⟨k2, e2⟩ := gen_new ht0 hG
  clear hG
  refine ⟨by show 1 ≤ sizeLine; omega, fun sn hsn => ?_⟩
  generalize hG : upd H2 sn _ = H3
  obtain ⟨k3, e3⟩ := gen_new hsn hG
  clear hG
  have k03 : Kp H H3 := fun b o e => k3 _ _ (k2 _ _ (k1 _ _ e))
  have snH : H sn = none := Kp.free (fun b o e => k2 _ _ (k1 _ _ e)) hsn
  walk_at "rd"
  refine ⟨⟨_, Tk.kp k03 _ _ ha⟩, ?_⟩
  have hlen : f.erow.length = 2 * f.nm.length := by rw [← row_len f, Fo.row_erow, List.length_map]
  rw [Fo.row_erow, List.map_map] at ha
  refine fb_tup (xs := f.erow.map (V.str ∘ en)) (fun i σ H4 => ∃ zs c ws x y z u, Kp H H4 ∧ H4 sn = some (.lst ws) ∧ Rp K H4 ws (ent zs c) ∧ Runs 1000 (f.erow.drop i) zs c f ∧ zs.length ≤ i ∧ i ≤ f.erow.length ∧ (∀ z ∈ zs, z.1.tops.length ≤ i) ∧ c.tops.length ≤ i ∧ σ = [some (.ref a), some (.ref sn), x, y, z, u]) ?_ ?_ ?_ ?_
  · exact ⟨[], .nil, _, _, _, _, _, k03, e3, .cons (SqT.of (k3 _ _ e2)) (SqT.of (k3 _ _ (k2 _ _ e1))) .nil .nil, runs_all f (by have := Fo.dp_le f; omega), Nat.le_refl _, Nat.zero_le _, (fun z hz => by cases hz), Nat.le_refl _, rfl⟩
  · rintro i σ H4 _ ⟨zs, c, ws, x, y, z, u, k4, _⟩
    exact Tk.kp k4 _ _ ha
  · rintro i v σ H4 hx ⟨zs, c, ws, x, y, z, u, k4, hs4, rp, hr, hzl, hi, hzt, hct, rfl⟩
    rw [List.getElem?_map, Option.map_eq_some_iff] at hx
    obtain ⟨e, he, rfl⟩ := hx
    rw [drop_at he] at hr
    have hi2 := (List.getElem?_eq_some_iff.mp he).1
    have hie : IsName e.2 := hf.nms _ (erow_nm f e (List.mem_of_getElem? he))
    have h8 := hie.eight
    unfold t_l_from_row_b1
    walk_at "rd"
    refine o_ixS (by rw [en_len]; omega) (en_at0 e) ⟨rfl, ?_⟩
    obtain ⟨b, n⟩ := e
    cases b with
    | true =>
      obtain ⟨hlt, hr2⟩ := hr
      refine ite2 (fun _ => ?_) fun h => absurd (by simpa using p43) h
      refine ⟨.inl ⟨rfl, _, SqL.of hs4⟩, en (true, n), rfl, by rw [en_len]; omega, Nat.zero_le _, fun p1 hp1 => ?_⟩
      rw [en_cut1]
      generalize hG : upd H4 p1 _ = H5
      obtain ⟨k5, e5⟩ := gen_new hp1 hG
      clear hG
      refine ⟨by show 2 ≤ sizeLine; omega, fun p2 hp2 => ?_⟩
      generalize hG : upd H5 p2 _ = H6
      obtain ⟨k6, e6⟩ := gen_new hp2 hG
      clear hG
      have hs6 := k6 _ _ (k5 _ _ hs4)
      refine ⟨sn, _, _, rfl, rfl, hs6, by rw [rp.len, ent_len]; omega, ?_⟩
      generalize hG : upd H6 sn _ = H7
      obtain ⟨k7, e7⟩ := gen_chg hG
      clear hG
      have t67 : Tk K H6 H7 := Tk.but (.inl ⟨_, hs6⟩) k7
      have t57 : Tk K H5 H7 := (Tk.kp k6).trans t67
      have t47 : Tk K H4 H7 := (Tk.kp k5).trans t57
      exact ⟨(c, n) :: zs, .nil, _, _, _, _, _, fun b o e => k7 _ _ (k6 _ _ (k5 _ _ (k4 _ _ e))) (ne_of_none e snH), e7, Rp.app (rp.mono t47) (.cons (t67 _ _ (SqT.of e6)) (t57 _ _ (SqT.of e5)) .nil .nil), hr2, by rw [List.length_cons]; omega, by omega, (fun z hz => by
        rcases List.mem_cons.mp hz with e | hz
        · rw [e]; show c.tops.length ≤ i + 1; omega
        · have := hzt z hz; omega), Nat.zero_le _, rfl⟩
    | false =>
      obtain ⟨l, zs', rfl, hr2⟩ := hr
      refine ite2 (fun h => absurd (by simpa using h) p45) fun _ => ?_
      walk_at "rd"
      obtain ⟨u1, t, k, kvs, rfl, r1, at1, ak1, rk1⟩ := Rp.last rp
      refine ⟨.inl ⟨rfl, _, SqL.of hs4⟩, sn, _, .ref t, rfl, rfl, hs4, by simp, ?_⟩
      rw [List.dropLast_concat]
      generalize hG : upd H4 sn _ = H5
      obtain ⟨k5, e5⟩ := gen_chg hG
      clear hG
      have t45 : Tk K H4 H5 := Tk.but (.inl ⟨_, hs4⟩) k5
      obtain ⟨X, m, hX⟩ := ent_last zs'
      rw [hX] at r1
      obtain ⟨u2, t2, kk2, kvs2, rfl, r2, at2, ak2, rk2⟩ := Rp.last r1
      walk_at "rd"
      refine ⟨.inl ⟨rfl, _, SqL.of e5⟩, sn, _, .ref t2, rfl, rfl, e5, by simp, ?_⟩
      rw [List.dropLast_concat]
      generalize hG : upd H5 sn _ = H6
      obtain ⟨k6, e6⟩ := gen_chg hG
      clear hG
      have t56 : Tk K H5 H6 := Tk.but (.inl ⟨_, e5⟩) k6
      have t46 := t45.trans t56
      walk_at "rd"
      refine ⟨t2, _, rfl, t46 _ _ at2, rfl, _, _, rfl, _, _, rfl, rfl, ?_⟩
      refine ⟨.inl ⟨rfl, _, SqL.of e6⟩, by show 1 ≤ sizeLine; omega, fun p1 hp1 => ?_⟩
      generalize hG : upd H6 p1 _ = H7
      obtain ⟨k7, e7⟩ := gen_new hp1 hG
      clear hG
      have hl2 := ent_len ((l, n) :: zs') c
      have hlt := hzt (l, n) (List.mem_cons_self ..)
      have hkl : kvs2.length ≤ 5000 := by rw [rk2.len]; have : l.tops.length ≤ i := hlt; omega
      refine o_cat (Tk.kp k7 _ _ (t46 _ _ ak2)) (SqT.of e7) (by simp only [List.length_cons, List.length_nil]; omega) fun p2 H8 k8 h8 => ?_
      refine ⟨by show 2 ≤ sizeLine; omega, fun p3 hp3 => ?_⟩
      generalize hG : upd H8 p3 _ = H9
      obtain ⟨k9, e9⟩ := gen_new hp3 hG
      clear hG
      have hs9 := k9 _ _ (k8 _ _ (k7 _ _ e6))
      have hul : u2.length ≤ zs'.length := by
        have h1 := r2.len
        have h2 := ent_len zs' .nil
        rw [hX, Fo.tops_app, List.length_append] at h2
        simp only [Fo.tops, List.length_cons, List.length_nil] at h2
        omega
      refine ⟨sn, _, _, rfl, rfl, hs9, by simp only [List.length_cons] at hzl; omega, ?_⟩
      generalize hG : upd H9 sn _ = H10
      obtain ⟨k10, e10⟩ := gen_chg hG
      clear hG
      have t910 : Tk K H9 H10 := Tk.but (.inl ⟨_, hs9⟩) k10
      have t610 : Tk K H6 H10 := (Tk.kp fun b o e => k9 _ _ (k8 _ _ (k7 _ _ e))).trans t910
      have t410 := t46.trans t610
      refine ⟨zs', _, _, _, _, _, _, fun b o e => k10 _ _ (k9 _ _ (k8 _ _ (k7 _ _ (k6 _ _ (k5 _ _ (k4 _ _ e) (ne_of_none e snH)) (ne_of_none e snH))))) (ne_of_none e snH), e10, ?_, hr2, by simp only [List.length_cons] at hzl; omega, by omega, (fun z hz => by have := hzt z (List.mem_cons_of_mem _ hz); omega), (by rw [Fo.tops_app, List.length_append]; have : l.tops.length ≤ i := hlt; show _ + 1 ≤ _; omega), rfl⟩
      rw [hX]
      exact Rp.app (r2.mono t410) (.cons (t910 _ _ (SqT.of e9)) (t910 _ _ (Tk.kp k9 _ _ h8)) (Rp.app (rk2.mono t410) (.cons (t410 _ _ at1) (t410 _ _ ak1) (rk1.mono t410) .nil)) .nil)
  · rintro σ H4 ⟨zs, c, ws, x, y, z, u, k4, hs4, rp, hr, hzl, hi, hzt, hct, rfl⟩
    rw [List.length_map, List.drop_length] at hr
    obtain ⟨rfl, rfl⟩ := hr
    walk_at "rd"
    cases rp with
    | @cons t k _ kvs _ _ _ a1 a2 a3 a4 =>
      cases a4
      exact o_ixL hs4 (atI_nat (j := 0) rfl) ⟨t, _, 1, _, rfl, rfl, a1, atI_nat (j := 1) rfl, q k H4 k4 ⟨kvs, a2, a3⟩⟩
theorem pure_l_skeleton (vs : List V) (H : Hp) (Q : VK) (E : XK) (h : sp_l_skeleton K vs H Q E) : t_l_skeleton K { nx := fun _ H' => Q .non H', rt := Q } (startN 3 vs) H := by
  obtain ⟨r, t, es, zs, rfl, hr, ht, hl, hn, q⟩ := h
  show t_l_skeleton K _ [some (.ref r), some (.ref t), none] H
  unfold t_l_skeleton
  have hz := sizeLine_eq
  walk_at "rd"
  refine ⟨⟨_, hr⟩, ?_⟩
  refine lb_walk (n := (es.map (V.str ∘ en)).length) walk_tup (fun D i H3 => H D = none ∧ Kp H H3 ∧ H3 D = some (.lst (((es.take i).filter fun e => decide (e.2 ∈ zs)).map (V.str ∘ en)))) ?_ ?_ ?_ ?_
  · intro D hD
    exact ⟨hD, (show Kp H H from fun _ _ h => h).new hD, by rw [upd_same]; rfl⟩
  · rintro D i H3 hi ⟨hD, k3, _⟩
    exact Tk.kp k3 _ _ hr
  · rintro D i x H3 H4 hi ⟨hD, k3, h3⟩ ⟨rfl, hx⟩
    rw [List.getElem?_map, Option.map_eq_some_iff] at hx
    obtain ⟨e, he, rfl⟩ := hx
    have hie := hn e (List.mem_of_getElem? he)
    have h8 := hie.eight
    have hle : ((es.take i).filter fun e => decide (e.2 ∈ zs)).length ≤ 2000 := by
      have := List.length_filter_le (fun e : En => decide (e.2 ∈ zs)) (es.take i)
      rw [List.length_take] at this; omega
    show gName 2 (.str (en e)) _ _ _
    walk_at "rd"
    refine ⟨en e, rfl, by rw [en_len]; omega, ?_⟩
    rw [en_cut1]
    refine o_inT (Tk.kp k3 _ _ ht) ?_
    walk_at "rd"
    rw [List.take_add_one, he, List.filter_append]
    refine ite2 (fun hc => ?_) fun hc => ?_
    · refine ⟨_, h3, by rw [List.length_map]; omega, hD, fun b o e => ?_, ?_⟩
      · rw [upd_ne (ne_of_none e hD)]; exact k3 _ _ e
      · have hc2 : e.2 ∈ zs := of_decide_eq_true hc
        rw [upd_same]; simp [hc2]
    · refine ⟨hD, k3, ?_⟩
      have hc2 : e.2 ∉ zs := fun h => hc (decide_eq_true h)
      rw [h3]; simp [hc2]
  · rintro D H3 hD ⟨_, k3, h3⟩
    rw [List.length_map, List.take_length] at h3
    refine ⟨D, _, rfl, .inl ⟨SqL.of h3, fun p hp => ?_⟩⟩
    generalize hG : upd H3 p _ = H4
    obtain ⟨k4, e4⟩ := gen_new hp hG
    clear hG
    exact q p H4 (fun b o e => k4 _ _ (k3 _ _ e)) (SqT.of e4)
theorem pure_l_gaps (vs : List V) (H : Hp) (Q : VK) (E : XK) (h : sp_l_gaps K vs H Q E) : t_l_gaps K { nx := fun _ H' => Q .non H', rt := Q } (startN 5 vs) H := by
  obtain ⟨r, t, es, zs, rfl, hr, ht, hl, hn, q⟩ := h
  show t_l_gaps K _ [some (.ref r), some (.ref t), none, none, none] H
  unfold t_l_gaps
  have hz := sizeLine_eq
  walk_at "rd"
  refine ⟨Nat.zero_le _, fun g0 hg0 => ?_⟩
  generalize hG : upd H g0 _ = H1
  obtain ⟨k1, e1⟩ := gen_new hg0 hG
  clear hG
  refine ⟨Nat.zero_le _, fun c0 hc0 => ?_⟩
  generalize hG : upd H1 c0 _ = H1a
  obtain ⟨k1a, e1a⟩ := gen_new hc0 hG
  clear hG
  refine ⟨by show 2 ≤ sizeLine; omega, fun c1 hc1 => ?_⟩
  generalize hG : upd H1a c1 _ = H2
  obtain ⟨k2a, e2a⟩ := gen_new hc1 hG
  clear hG
  have k2 : Kp H1 H2 := fun b o e => k2a _ _ (k1a _ _ e)
  have e2 := k2a _ _ e1a
  walk_at "rd"
  refine ⟨c1, _, rfl, SqT.of e2a, rfl, _, _, rfl, _, _, rfl, rfl, ?_⟩
  have k02 : Kp H H2 := fun b o e => k2 _ _ (k1 _ _ e)
  refine ⟨⟨_, Tk.kp k02 _ _ hr⟩, ?_⟩
  refine fb_tup (xs := es.map (V.str ∘ en)) (fun i σ H3 => ∃ gn cn gs ws cur x, Kp H H3 ∧ SqT K H3 gn ws ∧ Gs K H3 ws gs ∧ SqT K H3 cn (cur.map V.str) ∧ gs ++ gapL zs (es.drop i) cur = gapL zs es [] ∧ gs.length ≤ i ∧ cur.length ≤ i ∧ i ≤ es.length ∧
    σ = [some (.ref r), some (.ref t), some (.ref gn), some (.ref cn), x]) ?_ ?_ ?_ ?_
  · exact ⟨g0, c0, [], [], [], _, k02, SqT.of (k2 _ _ e1), .nil, SqT.of e2, rfl, Nat.le_refl _, Nat.le_refl _, Nat.zero_le _, rfl⟩
  · rintro i σ H3 _ ⟨gn, cn, gs, ws, cur, x, k3, _⟩
    exact Tk.kp k3 _ _ hr
  · rintro i v σ H3 hx ⟨gn, cn, gs, ws, cur, x, k3, hg3, gs3, hc3, heq, hgl, hcl, hi, rfl⟩
    rw [List.getElem?_map, Option.map_eq_some_iff] at hx
    obtain ⟨e, he, rfl⟩ := hx
    rw [drop_at he] at heq
    have hi2 := (List.getElem?_eq_some_iff.mp he).1
    have hie := hn e (List.mem_of_getElem? he)
    have h8 := hie.eight
    unfold t_l_gaps_b1
    walk_at "rd"
    refine ⟨en e, rfl, by rw [en_len]; omega, ?_⟩
    rw [en_cut1]
    refine o_inT (Tk.kp k3 _ _ ht) ?_
    walk_at "rd"
    refine ite2 (fun hc => ?_) fun hc => ?_
    · have hc2 : e.2 ∈ zs := of_decide_eq_true hc
      rw [gapL_cons, if_pos hc2] at heq
      refine ⟨by show 1 ≤ sizeLine; omega, fun p1 hp1 => ?_⟩
      generalize hG : upd H3 p1 _ = H4
      obtain ⟨k4, e4⟩ := gen_new hp1 hG
      clear hG
      refine o_cat (Tk.kp k4 _ _ hg3) (SqT.of e4) (by rw [gs3.len]; simp only [List.length_cons, List.length_nil]; omega) fun p2 H5 k5 h5 => ?_
      refine ⟨Nat.zero_le _, fun p3 hp3 => ?_⟩
      generalize hG : upd H5 p3 _ = H6
      obtain ⟨k6, e6⟩ := gen_new hp3 hG
      clear hG
      walk_at "rd"
      have k36 : Kp H3 H6 := fun b o e => k6 _ _ (k5 _ _ (k4 _ _ e))
      refine ⟨p2, p3, gs ++ [cur], _, [], _, fun b o e => k36 _ _ (k3 _ _ e), Tk.kp k6 _ _ h5, (gs3.mono (Tk.kp k36)).snoc (Tk.kp k36 _ _ hc3), SqT.of e6, ?_, by rw [List.length_append, List.length_singleton]; omega, Nat.zero_le _, by omega, rfl⟩
      rw [List.append_assoc]; exact heq
    · have hc2 : e.2 ∉ zs := fun h => hc (decide_eq_true h)
      rw [gapL_cons, if_neg hc2] at heq
      refine ⟨by show 1 ≤ sizeLine; omega, fun p1 hp1 => ?_⟩
      generalize hG : upd H3 p1 _ = H4
      obtain ⟨k4, e4⟩ := gen_new hp1 hG
      clear hG
      refine o_cat (Tk.kp k4 _ _ hc3) (SqT.of e4) (by rw [List.length_map]; simp only [List.length_cons, List.length_nil]; omega) fun p2 H5 k5 h5 => ?_
      have k35 : Kp H3 H5 := fun b o e => k5 _ _ (k4 _ _ e)
      exact ⟨gn, p2, gs, ws, cur ++ [en e], _, fun b o e => k35 _ _ (k3 _ _ e), Tk.kp k35 _ _ hg3, gs3.mono (Tk.kp k35), by simpa using h5, heq, by omega, by rw [List.length_append, List.length_singleton]; omega, by omega, rfl⟩
  · rintro σ H3 ⟨gn, cn, gs, ws, cur, x, k3, hg3, gs3, hc3, heq, hgl, hcl, hi, rfl⟩
    rw [List.length_map] at heq hgl hcl
    rw [List.drop_length] at heq
    walk_at "rd"
    refine ⟨by show 1 ≤ sizeLine; omega, fun p1 hp1 => ?_⟩
    generalize hG : upd H3 p1 _ = H4
    obtain ⟨k4, e4⟩ := gen_new hp1 hG
    clear hG
    refine o_cat (Tk.kp k4 _ _ hg3) (SqT.of e4) (by rw [gs3.len]; simp only [List.length_cons, List.length_nil]; omega) fun p2 H5 k5 h5 => ?_
    have k35 : Kp H3 H5 := fun b o e => k5 _ _ (k4 _ _ e)
    refine q p2 H5 (fun b o e => k35 _ _ (k3 _ _ e)) ⟨_, h5, ?_⟩
    rw [← heq]
    exact (gs3.mono (Tk.kp k35)).snoc (Tk.kp k35 _ _ hc3)
theorem ins_go {H : Hp} {fl d : Addr} {cs : List Str} {z : Str} {P : Hp → Prop} (dk : DeckAt H d) (h : H fl = some (.lst (cs.map V.str))) (fld : fl ≠ d) (hl : cs.length ≤ 1000)
    (q : ∀ H5 (c : Int), Dk d H H5 → 0 ≤ c → c < (cs.length : Int) + 1 → P (upd H5 fl (.lst ((cs.map V.str).take c.toNat ++ [V.str z] ++ (cs.map V.str).drop c.toNat)))) :
    tyV K "list" (V.ref fl) H ∧ rLenSeq K [V.ref fl] H fun x H1 => rI0 (fun i j => V.int (i + j)) x (V.int 1) H1 fun x H1 => sp_l_draw [V.ref d, x] H1 (fun x H1 => rInsert (V.ref fl) [x, V.str z] H1 fun _ H1 => P H1) E0 := by
  have hz := sizeLine_eq
  refine ⟨.inl ⟨rfl, _, SqL.of h⟩, fl, _, rfl, .inl (SqL.of h), ?_⟩
  walk_at "rd"
  rw [List.length_map]
  refine o_draw dk (by omega) (by omega) fun c H5 c0 c1 k5 => ?_
  exact ⟨fl, _, c, _, rfl, rfl, k5.keep _ _ h fld, by rw [List.length_map]; omega, c0, by omega, q H5 c k5 c0 c1⟩
theorem pure_l_chosen (vs : List V) (H : Hp) (Q : VK) (E : XK) (h : sp_l_chosen K vs H Q E) : t_l_chosen K { nx := fun _ H' => Q .non H', rt := Q } (startN 5 vs) H := by
  obtain ⟨d, l, zs, rfl, hd, hl, hld, nd, hsz, q⟩ := h
  show t_l_chosen K _ [some (.ref d), some (.ref l), none, none, none] H
  unfold t_l_chosen
  have hz := sizeLine_eq
  walk_at "rd"
  refine o_draw hd (by decide) (by decide) fun way H1 w0 w1 k1 => ?_
  refine ⟨Nat.zero_le _, fun fl hfl => ?_⟩
  generalize hG : upd H1 fl _ = H2
  obtain ⟨k2, e2⟩ := gen_new hfl hG
  clear hG
  have fld : fl ≠ d := deck_ne k1.deck hfl
  obtain ⟨x0, y0, z0, hd1⟩ := k1.deck
  have k02 : Dk d H H2 := ⟨fun b o e nb => k2 _ _ (k1.keep _ _ e nb), x0, y0, z0, k2 _ _ hd1⟩
  walk_at "rd"
  have flH : H fl = none ∨ True := .inr trivial
  have fll : fl ≠ l := fun e => by rw [e, k1.keep _ _ hl hld] at hfl; cases hfl
  refine ⟨⟨_, SqL.of (k02.keep _ _ hl hld)⟩, ?_⟩
  refine fb_list (xs := zs.map V.str) (fun i σ H3 => ∃ (cs : List Str) (x : Option V), (∀ b o, H b = some o → b ≠ d → H3 b = some o) ∧ DeckAt H3 d ∧ H3 fl = some (.lst (cs.map V.str)) ∧ cs.Nodup ∧ (∀ c ∈ cs, c ∈ zs.take i) ∧ cs.length ≤ i ∧ σ = [some (.ref d), some (.ref l), some (.int way), some (.ref fl), x]) ?_ ?_ ?_ ?_
  · exact ⟨[], _, k02.keep, k02.deck, e2, List.nodup_nil, (fun c hc => by cases hc), Nat.le_refl _, rfl⟩
  · rintro i σ H3 _ ⟨cs, x, k3, _⟩
    exact SqL.of (k3 _ _ hl hld)
  · rintro i v σ H3 hx ⟨cs, x, k3, d3, h3, ndc, hin, hcl, rfl⟩
    rw [List.getElem?_map, Option.map_eq_some_iff] at hx
    obtain ⟨z, hzi, rfl⟩ := hx
    have hi2 := (List.getElem?_eq_some_iff.mp hzi).1
    have hzn : z ∉ cs := fun hm => by
      obtain ⟨j, hj, e⟩ := List.mem_take_iff_getElem.mp (hin z hm)
      obtain ⟨_, e2⟩ := List.getElem?_eq_some_iff.mp hzi
      have := (List.getElem_inj nd).mp (e.trans e2.symm)
      omega
    have sub : ∀ c ∈ cs, c ∈ zs.take (i + 1) := fun c hc => by
      rw [List.take_add_one]; exact List.mem_append_left _ (hin c hc)
    have fk : ∀ H4, Dk d H3 H4 → ∃ (cs : List Str) (x : Option V), (∀ b o, H b = some o → b ≠ d → H4 b = some o) ∧ DeckAt H4 d ∧ H4 fl = some (.lst (cs.map V.str)) ∧ cs.Nodup ∧ (∀ c ∈ cs, c ∈ zs.take (i + 1)) ∧ cs.length ≤ i + 1 ∧
        [some (V.ref d), some (V.ref l), some (V.int way), some (V.ref fl), some (V.str z)] = [some (.ref d), some (.ref l), some (.int way), some (.ref fl), x] := fun H4 k4 =>
      ⟨cs, _, fun b o e nb => k4.keep _ _ (k3 _ _ e nb) nb, k4.deck, k4.keep _ _ h3 fld, ndc, sub, by omega, rfl⟩
    have body : ∀ H4, Dk d H3 H4 → ∀ (c : Int), 0 ≤ c → c < (cs.length : Int) + 1 → ∃ (cs' : List Str) (x : Option V), (∀ b o, H b = some o → b ≠ d → (upd H4 fl (.lst ((cs.map V.str).take c.toNat ++ [V.str z] ++ (cs.map V.str).drop c.toNat))) b = some o) ∧ DeckAt (upd H4 fl (.lst ((cs.map V.str).take c.toNat ++ [V.str z] ++ (cs.map V.str).drop c.toNat))) d ∧
        (upd H4 fl (.lst ((cs.map V.str).take c.toNat ++ [V.str z] ++ (cs.map V.str).drop c.toNat))) fl = some (.lst (cs'.map V.str)) ∧ cs'.Nodup ∧ (∀ c ∈ cs', c ∈ zs.take (i + 1)) ∧ cs'.length ≤ i + 1 ∧
        [some (V.ref d), some (V.ref l), some (V.int way), some (V.ref fl), some (V.str z)] = [some (.ref d), some (.ref l), some (.int way), some (.ref fl), x] := fun H4 k4 c c0 c1 => by
      have hp : (cs.take c.toNat ++ [z] ++ cs.drop c.toNat).Perm (z :: cs) := by
        have e : cs.take c.toNat ++ [z] ++ cs.drop c.toNat = cs.take c.toNat ++ z :: cs.drop c.toNat := by simp
        rw [e]
        refine List.perm_middle.trans ?_
        rw [List.take_append_drop]
      obtain ⟨x, y, w, hd4⟩ := k4.deck
      have flH2 : ∀ b o, H b = some o → b ≠ d → b ≠ fl := fun b o e nb ef => by
        rw [ef] at e
        have := k1.keep _ _ e fld
        rw [this] at hfl; cases hfl
      refine ⟨cs.take c.toNat ++ [z] ++ cs.drop c.toNat, _, fun b o e nb => ?_, ⟨x, y, w, by rw [upd_ne fld.symm]; exact hd4⟩, by rw [upd_same]; simp [List.map_take, List.map_drop], hp.nodup_iff.mpr (List.nodup_cons.mpr ⟨hzn, ndc⟩), fun c hc => ?_, by rw [hp.length_eq, List.length_cons]; omega, rfl⟩
      · rw [upd_ne (flH2 b o e nb)]
        exact k4.keep _ _ (k3 _ _ e nb) nb
      · rcases List.mem_cons.mp (hp.mem_iff.mp hc) with e | h
        · rw [e, List.take_add_one, hzi]; exact List.mem_append_right _ (List.mem_singleton.mpr rfl)
        · exact sub c h
    unfold t_l_chosen_b1
    walk_at "rd"
    refine ⟨rfl, ite2 (fun _ => ?_) fun _ => ite2 (fun h3w => ?_) fun _ => ?_⟩
    · exact ins_go d3 h3 fld (by omega) fun H5 c k5 c0 c1 => body H5 k5 c c0 c1
    · have h3w : way < 3 := of_decide_eq_true h3w
      refine o_draw d3 (by omega) (by omega) fun c H5 c0 c1 k5 => ?_
      refine ⟨rfl, ite2 (fun _ => ?_) fun _ => fk H5 k5⟩
      exact ins_go k5.deck (k5.keep _ _ h3 fld) fld (by omega) fun H6 c k6 c0 c1 => body H6 (k5.trans k6) c c0 c1
    · rw [if_neg (by decide)]
      exact fk H3 (Dk.refl d3)
  · rintro σ H3 ⟨cs, x, k3, d3, h3, ndc, hin, hcl, rfl⟩
    rw [List.length_map, List.take_length] at hin
    walk_at "rd"
    refine ⟨fl, _, rfl, .inl ⟨SqL.of h3, fun p hp => ?_⟩⟩
    have hpd : p ≠ d := deck_ne d3 hp
    generalize hG : upd H3 p _ = H4
    obtain ⟨k4, e4⟩ := gen_new hp hG
    clear hG
    obtain ⟨x, y, w, hd3⟩ := d3
    exact q p cs H4 ⟨fun b o e nb => k4 _ _ (k3 _ _ e nb), x, y, w, k4 _ _ hd3⟩ (SqT.of e4) ndc hin
end
end Tw
set_option Elab.async false
set_option linter.all false
set_option maxRecDepth 100000
set_option maxHeartbeats 4000000
/-! The plain layer: more operations, own lists read, targets, what is walked. -/
namespace Tw
open PySem PySem.Spec PyProof.Rows L2
/-! ### reading an own list -/
namespace SE
variable {K : PySem.W.Frag}
def lenO (i : Nat) : SE K where
  rd := fun _ => tCB (rLenSeq K) (tCons (tVar i) tNil)
  wp := fun _ ρ P => ∃ xs, ρ[i]? = some (.own xs) ∧ P (.int xs.length) ρ
  ok := by
    intro dk F0 H0 F σ H ρ E PE P Q I e h q
    obtain ⟨xs, hi, h⟩ := h
    obtain ⟨a, vs, hσ, hl, r, o⟩ := I.ownL hi
    exact ⟨_, hσ, a, vs, rfl, .inl (SqL.of hl), by rw [r.len]; exact q _ _ _ _ _ Grow.refl I (.int _) h⟩
def tupO (i : Nat) : SE K where
  rd := fun _ => tCB (rTupleOf K) (tCons (tVar i) tNil)
  wp := fun _ ρ P => ∃ xs, ρ[i]? = some (.own xs) ∧ P (.tup xs) ρ
  ok := by
    intro dk F0 H0 F σ H ρ E PE P Q I e h q
    obtain ⟨xs, hi, h⟩ := h
    obtain ⟨a, vs, hσ, hl, r, o⟩ := I.ownL hi
    exact ⟨_, hσ, a, vs, rfl, .inl ⟨SqL.of hl, fun p hp => q _ _ _ _ _ (Grow.new hp) (I.new hp) (.tup (SqT.of upd_same) (r.mono (Grow.new hp))) h⟩⟩
def ixO (i : Nat) (b : SE K) : SE K where
  rd := fun E => tOp (rIxL K) (tVar i) (b.rd E)
  wp := fun PE ρ P => ∃ xs0, ρ[i]? = some (.own xs0) ∧ b.wp PE ρ fun y ρ1 => ∃ xs k u, ρ1[i]? = some (.own xs) ∧ y = .int k ∧ L2.atI xs k = some u ∧ P u ρ1
  ok := by
    intro dk F0 H0 F σ H ρ E PE P Q I e h q
    obtain ⟨xs0, hi, h⟩ := h
    obtain ⟨a, vs, hσ, hl, r, o⟩ := I.ownL hi
    refine ⟨_, hσ, b.ok I e h fun w H1 F1 y ρ1 g1 I1 r1 h1 => ?_⟩
    obtain ⟨xs, k, u, hi1, rfl, hk, h1⟩ := h1
    obtain ⟨a', vs', hσ', hl', r', o'⟩ := I1.ownL hi1
    rw [hσ] at hσ'; cases hσ'
    cases r1
    obtain ⟨v, hv, rv⟩ := r'.atI hk
    exact ⟨a, vs', k, v, rfl, rfl, SqL.of hl', hv, q _ _ _ _ _ g1 I1 rv h1⟩
/-- a text in an own list of texts -/
def inO (neg : Bool) (a : SE K) (i : Nat) : SE K where
  rd := fun E => tOp (rIn K neg) (a.rd E) (tVar i)
  wp := fun PE ρ P => a.wp PE ρ fun x ρ1 => ∃ (n : Str) (zs : List Str), x = .str n ∧ ρ1[i]? = some (.own (zs.map .str)) ∧ P (.bl (neg != decide (n ∈ zs))) ρ1
  ok := by
    intro dk F0 H0 F σ H ρ E PE P Q I e h q
    refine a.ok I e h fun w H1 F1 y ρ1 g1 I1 r1 h1 => ?_
    obtain ⟨n, zs, rfl, hi, h1⟩ := h1
    obtain ⟨l, vs, hσ, hl, r, o⟩ := I1.ownL hi
    cases r1
    have := r.strs; subst this
    have e : (if neg = true then !inV (.str n) (zs.map V.str) else inV (.str n) (zs.map V.str)) = (neg != decide (n ∈ zs)) := by
      rw [inV_str]; cases neg <;> simp
    exact ⟨_, hσ, l, _, rfl, .inl (SqL.of hl), rfl, flat_strs zs, by rw [e]; exact q _ _ _ _ _ g1 I1 (.bl _) h1⟩
/-- xs == [] -/
def eqEO (neg : Bool) (i : Nat) : SE K where
  rd := fun _ => tOp (rEqE K neg) (tVar i) (tLst tNil)
  wp := fun _ ρ P => ∃ xs, ρ[i]? = some (.own xs) ∧ P (.bl (neg != xs.isEmpty)) ρ
  ok := by
    intro dk F0 H0 F σ H ρ E PE P Q I e h q
    obtain ⟨xs, hi, h⟩ := h
    obtain ⟨a, vs, hσ, hl, r, o⟩ := I.ownL hi
    refine ⟨_, hσ, Nat.zero_le _, fun p hp => ?_⟩
    have hl2 : upd H p (.lst []) a = some (.lst vs) := by rw [upd_ne (ne_of_none hl hp)]; exact hl
    exact ⟨a, p, vs, rfl, rfl, .inl ⟨SqL.of hl2, SqL.of upd_same⟩, by rw [r.emp]; exact q _ _ _ _ _ (Grow.new hp) (I.new hp) (.bl _) h⟩
def popAt (i : Nat) (b : SE K) : SE K where
  rd := fun E => tBM K "list" rPopAt (tVar i) (tCons (b.rd E) tNil)
  wp := fun PE ρ P => ∃ xs0, ρ[i]? = some (.own xs0) ∧ b.wp PE ρ fun y ρ1 => ∃ xs k j u, ρ1[i]? = some (.own xs) ∧ y = .int k ∧ -(2 ^ 63) ≤ k ∧ k < 2 ^ 63 ∧ seqIndex? k xs.length = some j ∧ xs[j]? = some u ∧ P u (ρ1.set i (.own (xs.eraseIdx j)))
  ok := by
    intro dk F0 H0 F σ H ρ E PE P Q I e h q
    obtain ⟨xs0, hi, h⟩ := h
    obtain ⟨a, vs, hσ, hl, r, o⟩ := I.ownL hi
    refine ⟨_, hσ, .inl ⟨rfl, vs, SqL.of hl⟩, b.ok I e h fun w H1 F1 y ρ1 g1 I1 r1 h1 => ?_⟩
    obtain ⟨xs, k, j, u, hi1, rfl, k1, k2, hk, hu, h1⟩ := h1
    obtain ⟨a', vs', hσ', hl', r', o'⟩ := I1.ownL hi1
    rw [hσ] at hσ'; cases hσ'
    cases r1
    obtain ⟨v, hv, rv⟩ := r'.get2 hu
    obtain ⟨I2, g2⟩ := I1.chgL o' hl' (r'.erase j)
    exact ⟨a, vs', k, j, v, rfl, rfl, hl', k1, k2, by rw [r'.len]; exact hk, hv, q _ _ _ _ _ (g1.trans g2) I2 (rv.mono g2) h1⟩
end SE
namespace ST
variable {K : PySem.W.Frag}
def truO (i : Nat) : ST K where
  rd := fun _ => tTru K (tVar i)
  wp := fun _ ρ P => ∃ xs, ρ[i]? = some (.own xs) ∧ P (!xs.isEmpty) ρ
  ok := by
    intro dk F0 H0 F σ H ρ E PE P Q I e h q
    obtain ⟨xs, hi, h⟩ := h
    obtain ⟨a, vs, hσ, hl, r, o⟩ := I.ownL hi
    exact ⟨_, hσ, _, .inl ⟨vs, SqL.of hl, rfl⟩, by rw [r.emp]; exact q _ _ _ _ Grow.refl I h⟩
end ST
namespace SN
variable {K : PySem.W.Frag}
def listO (i : Nat) : SN K where
  rd := fun _ => tCB (rListOf K) (tCons (tVar i) tNil)
  wp := fun _ ρ P => ∃ xs, ρ[i]? = some (.own xs) ∧ P xs ρ
  ok := by
    intro dk F0 H0 F σ H ρ E PE P Q I e h q
    obtain ⟨xs, hi, h⟩ := h
    obtain ⟨a, vs, hσ, hl, r, o⟩ := I.ownL hi
    refine ⟨_, hσ, a, vs, rfl, .inl (SqL.of hl), fun p hp => ?_⟩
    obtain ⟨I4, g4, e4, r4, a1, a2, a3, a4⟩ := I.laid hp r
    exact q _ _ _ _ _ _ g4 I4 e4 r4 a1 a2 a3 a4 h
def slO (i : Nat) (lo hi : SP_ K) : SN K where
  rd := fun E => L2.tSl (rSlL K) (tVar i) (lo.rd E) (hi.rd E)
  wp := fun PE ρ P => ∃ xs0, ρ[i]? = some (.own xs0) ∧ lo.wp PE ρ fun l ρ2 => hi.wp PE ρ2 fun h ρ3 => ∃ xs, ρ3[i]? = some (.own xs) ∧ P (cutP xs l h) ρ3
  ok := by
    intro dk F0 H0 F σ H ρ E PE P Q I e h q
    obtain ⟨xs0, hi0, h⟩ := h
    obtain ⟨a, vs, hσ, hl, r, o⟩ := I.ownL hi0
    refine ⟨_, hσ, lo.ok I e h fun l H2 F2 ρ2 g2 I2 h2 => ?_⟩
    refine hi.ok I2 (e.grow g2) h2 fun u H3 F3 ρ3 g3 I3 h3 => ?_
    obtain ⟨xs, hi3, h3⟩ := h3
    obtain ⟨a', vs', hσ', hl', r', o'⟩ := I3.ownL hi3
    rw [hσ] at hσ'; cases hσ'
    refine ⟨a, vs', rfl, SqL.of hl', fun p hp => ?_⟩
    obtain ⟨I4, g4, e4, r4, a1, a2, a3, a4⟩ := I3.laid hp (r'.cut l u)
    exact q _ _ _ _ _ _ ((g2.trans g3).trans g4) I4 e4 r4 a1 a2 a3 a4 h3
/-- xs[::-1] -/
def revL (a : SE K) : SN K where
  rd := fun E => tRevL K (a.rd E)
  wp := fun PE ρ P => a.wp PE ρ fun x ρ1 => ∃ xs, x = .lst xs ∧ P xs.reverse ρ1
  ok := by
    intro dk F0 H0 F σ H ρ E PE P Q I e h q
    refine a.ok I e h fun v H1 F1 x ρ1 g1 I1 r1 h1 => ?_
    obtain ⟨xs, rfl, h1⟩ := h1
    cases r1 with
    | lst f s r =>
      refine ⟨_, _, rfl, SqL.of s, fun p hp => ?_⟩
      obtain ⟨I4, g4, e4, r4, a1, a2, a3, a4⟩ := I1.laid hp r.rev
      exact q _ _ _ _ _ _ (g1.trans g4) I4 e4 r4 a1 a2 a3 a4 h1
/-- xs * n -/
def rep (a b : SE K) : SN K where
  rd := fun E => tOp rRep (a.rd E) (b.rd E)
  wp := fun PE ρ P => a.wp PE ρ fun x ρ1 => b.wp PE ρ1 fun y ρ2 => ∃ xs k, x = .lst xs ∧ y = .int k ∧ -(2 ^ 63) ≤ k ∧ k < 2 ^ 63 ∧ xs.length * k.toNat ≤ sizeLine ∧ P (List.replicate k.toNat xs).flatten ρ2
  ok := by
    intro dk F0 H0 F σ H ρ E PE P Q I e h q
    refine a.ok I e h fun v H1 F1 x ρ1 g1 I1 r1 h1 => ?_
    refine b.ok I1 (e.grow g1) h1 fun w H2 F2 y ρ2 g2 I2 r2 h2 => ?_
    obtain ⟨xs, k, rfl, rfl, k1, k2, hz, h2⟩ := h2
    have r1' := r1.mono g2
    cases r2
    cases r1' with
    | lst f1 s1 l1 =>
      refine ⟨_, k, _, rfl, rfl, s1, k1, k2, by rw [l1.len]; exact hz, fun p hp => ?_⟩
      have hr : ∀ n, RepL K dk F2 H2 (List.replicate n _).flatten (List.replicate n xs).flatten := fun n => by
        induction n with
        | zero => exact .nil
        | succ n ih => rw [List.replicate_succ, List.replicate_succ, List.flatten_cons, List.flatten_cons]; exact l1.app ih
      obtain ⟨I4, g4, e4, r4, a1, a2, a3, a4⟩ := I2.laid hp (hr k.toNat)
      exact q _ _ _ _ _ _ ((g1.trans g2).trans g4) I4 e4 r4 a1 a2 a3 a4 h2
/-- sorted(xs), texts, fewer than 64 -/
def sortedS (a : SE K) : SN K where
  rd := fun E => tCB (rSortedS K) (tCons (a.rd E) tNil)
  wp := fun PE ρ P => a.wp PE ρ fun x ρ1 => ∃ zs : List Str, x = .lst (zs.map .str) ∧ zs.length < 64 ∧ ∀ ys : List Str, ys.Perm zs → PyProof.Rows.sortedS ys = true → P (ys.map .str) ρ1
  ok := by
    intro dk F0 H0 F σ H ρ E PE P Q I e h q
    refine a.ok I e h fun v H1 F1 x ρ1 g1 I1 r1 h1 => ?_
    obtain ⟨zs, rfl, hz, h1⟩ := h1
    cases r1 with
    | lst f s r =>
      have := r.strs; subst this
      refine ⟨_, zs, rfl, SqL.of s, hz, fun ys p hp hs hn => ?_⟩
      obtain ⟨I4, g4, e4, r4, a1, a2, a3, a4⟩ := I1.laid hn (RepL.ofStrs ys)
      exact q _ _ _ _ _ _ (g1.trans g4) I4 e4 r4 a1 a2 a3 a4 (h1 ys hp hs)
/-- sorted(xs), ints -/
def sortedI (a : SE K) : SN K where
  rd := fun E => tCB (rSortedI K) (tCons (a.rd E) tNil)
  wp := fun PE ρ P => a.wp PE ρ fun x ρ1 => ∃ zs : List Int, x = .lst (zs.map .int) ∧ ∀ ys : List Int, ys.Perm zs → ys.Pairwise (· ≤ ·) → P (ys.map .int) ρ1
  ok := by
    intro dk F0 H0 F σ H ρ E PE P Q I e h q
    refine a.ok I e h fun v H1 F1 x ρ1 g1 I1 r1 h1 => ?_
    obtain ⟨zs, rfl, h1⟩ := h1
    cases r1 with
    | lst f s r =>
      have := r.ints; subst this
      refine ⟨_, zs, rfl, SqL.of s, fun ys p hp hs hn => ?_⟩
      have ri : ∀ l : List Int, RepL K dk F1 H1 (l.map V.int) (l.map .int) := fun l => by
        induction l with
        | nil => exact .nil
        | cons i l ih => exact .cons (.int i) ih
      obtain ⟨I4, g4, e4, r4, a1, a2, a3, a4⟩ := I1.laid hn (ri ys)
      exact q _ _ _ _ _ _ (g1.trans g4) I4 e4 r4 a1 a2 a3 a4 (h1 ys hp hs)
end SN
/-! ### changing an own list -/
namespace SS
variable {K : PySem.W.Frag}
def extendT (i : Nat) (a : SE K) : SS K where
  rd := fun E => tDrop (tBM K "list" (rExtendT K) (tVar i) (tCons (a.rd E) tNil))
  wp := fun PE PD ρ => ∃ xs0, ρ[i]? = some (.own xs0) ∧ a.wp PE ρ fun y ρ1 => ∃ xs ys, ρ1[i]? = some (.own xs) ∧ y = .tup ys ∧ xs.length + ys.length ≤ sizeLine ∧ PD.nx (ρ1.set i (.own (xs ++ ys)))
  ok := by
    intro dk F0 H0 F σ H ρ E PE D PD I e d h
    obtain ⟨xs0, h0, h⟩ := h
    obtain ⟨l, vs, hσ, hl, _, _⟩ := I.ownL h0
    refine ⟨_, hσ, .inl ⟨rfl, vs, SqL.of hl⟩, ?_⟩
    refine a.ok I e h fun v H1 F1 y ρ1 g1 I1 r1 h1 => ?_
    obtain ⟨xs, ys, h2, rfl, h3, h4⟩ := h1
    obtain ⟨l', vs', hσ', hl', rl, o⟩ := I1.ownL h2
    rw [hσ] at hσ'; cases hσ'
    cases r1 with
    | tup s r =>
      obtain ⟨I2, g2⟩ := I1.chgL o hl' (rl.app r)
      exact ⟨l, _, vs', _, rfl, rfl, hl', s, by rw [rl.len, r.len]; exact h3, d.nx _ _ _ _ (g1.trans g2) I2 h4⟩
def extendL (i : Nat) (a : SE K) : SS K where
  rd := fun E => tDrop (tBM K "list" rExtend (tVar i) (tCons (a.rd E) tNil))
  wp := fun PE PD ρ => ∃ xs0, ρ[i]? = some (.own xs0) ∧ a.wp PE ρ fun y ρ1 => ∃ xs ys, ρ1[i]? = some (.own xs) ∧ y = .lst ys ∧ xs.length + ys.length ≤ sizeLine ∧ PD.nx (ρ1.set i (.own (xs ++ ys)))
  ok := by
    intro dk F0 H0 F σ H ρ E PE D PD I e d h
    obtain ⟨xs0, h0, h⟩ := h
    obtain ⟨l, vs, hσ, hl, _, _⟩ := I.ownL h0
    refine ⟨_, hσ, .inl ⟨rfl, vs, SqL.of hl⟩, ?_⟩
    refine a.ok I e h fun v H1 F1 y ρ1 g1 I1 r1 h1 => ?_
    obtain ⟨xs, ys, h2, rfl, h3, h4⟩ := h1
    obtain ⟨l', vs', hσ', hl', rl, o⟩ := I1.ownL h2
    rw [hσ] at hσ'; cases hσ'
    cases r1 with
    | lst f s r =>
      obtain ⟨I2, g2⟩ := I1.chgL o hl' (rl.app r)
      exact ⟨l, _, vs', _, rfl, rfl, hl', s, by rw [rl.len, r.len]; exact h3, d.nx _ _ _ _ (g1.trans g2) I2 h4⟩
def insert (i : Nat) (a b : SE K) : SS K where
  rd := fun E => tDrop (tBM K "list" rInsert (tVar i) (tCons (a.rd E) (tCons (b.rd E) tNil)))
  wp := fun PE PD ρ => ∃ xs0, ρ[i]? = some (.own xs0) ∧ a.wp PE ρ fun y ρ1 => b.wp PE ρ1 fun z ρ2 => ∃ xs k, ρ2[i]? = some (.own xs) ∧ y = .int k ∧ xs.length < sizeLine ∧ 0 ≤ k ∧ k < 2 ^ 63 ∧ PD.nx (ρ2.set i (.own (xs.take k.toNat ++ [z] ++ xs.drop k.toNat)))
  ok := by
    intro dk F0 H0 F σ H ρ E PE D PD I e d h
    obtain ⟨xs0, h0, h⟩ := h
    obtain ⟨l, vs, hσ, hl, _, _⟩ := I.ownL h0
    refine ⟨_, hσ, .inl ⟨rfl, vs, SqL.of hl⟩, ?_⟩
    refine a.ok I e h fun v H1 F1 y ρ1 g1 I1 r1 h1 => ?_
    refine b.ok I1 (e.grow g1) h1 fun w H2 F2 z ρ2 g2 I2 r2 h2 => ?_
    obtain ⟨xs, k, hi, rfl, hz, k0, k1, h3⟩ := h2
    obtain ⟨l', vs', hσ', hl', rl, o⟩ := I2.ownL hi
    rw [hσ] at hσ'; cases hσ'
    cases r1
    obtain ⟨I3, g3⟩ := I2.chgL o hl' (((rl.take k.toNat).app (.one r2)).app (rl.drop k.toNat))
    exact ⟨l, vs', k, w, rfl, rfl, hl', by rw [rl.len]; exact hz, k0, k1, d.nx _ _ _ _ ((g1.trans g2).trans g3) I3 h3⟩
/-- xs[k] = e -/
def setL (i : Nat) (k a : SE K) : SS K where
  rd := fun E => tAsg (a.rd E) (gSub (tVar i) (k.rd E) rSetL)
  wp := fun PE PD ρ => a.wp PE ρ fun z ρ1 => ∃ xs0, ρ1[i]? = some (.own xs0) ∧ k.wp PE ρ1 fun y ρ2 => ∃ xs m j, ρ2[i]? = some (.own xs) ∧ y = .int m ∧ ixN xs.length m = some j ∧ PD.nx (ρ2.set i (.own (xs.set j z)))
  ok := by
    intro dk F0 H0 F σ H ρ E PE D PD I e d h
    refine a.ok I e h fun v H1 F1 z ρ1 g1 I1 r1 h1 => ?_
    obtain ⟨xs0, h0, h1⟩ := h1
    obtain ⟨l, vs, hσ, hl, _, _⟩ := I1.ownL h0
    refine ⟨_, hσ, k.ok I1 (e.grow g1) h1 fun w H2 F2 y ρ2 g2 I2 r2 h2 => ?_⟩
    obtain ⟨xs, m, j, hi, rfl, hj, h3⟩ := h2
    obtain ⟨l', vs', hσ', hl', rl, o⟩ := I2.ownL hi
    rw [hσ] at hσ'; cases hσ'
    cases r2
    obtain ⟨I3, g3⟩ := I2.chgL o hl' (rl.set (r1.mono g2) j)
    exact ⟨l, vs', m, j, rfl, rfl, hl', by rw [rl.len]; exact hj, d.nx _ _ _ _ ((g1.trans g2).trans g3) I3 h3⟩
end SS
/-! ### targets -/
def gNames : List Nat → TGs
  | [] => gNil
  | i :: r => gCons (gName i) (gNames r)
def setAll : Env → List Nat → List PV → Env
  | ρ, i :: is, x :: xs => setAll (ρ.set i (.val x)) is xs
  | ρ, _, _ => ρ
section
variable {K : PySem.W.Frag} {dk : Option Addr} {F0 F : Addr → Prop} {H0 H : Hp} {σ : L2.St} {ρ : Env}
theorem names_ok {P : Env → Prop} {Q : L2.St → Hp → Prop} : ∀ (sl : List Nat) {σ : L2.St} {ρ : Env} {vs : List V} {xs : List PV}, PInv K dk F0 H0 F σ H ρ → RepL K dk F H vs xs → xs.length = sl.length → P (setAll ρ sl xs) →
    (∀ σ' ρ', σ'.length = σ.length → (∀ j, j ∉ sl → σ'[j]? = σ[j]?) → PInv K dk F0 H0 F σ' H ρ' → P ρ' → Q σ' H) → gNames sl vs σ H Q
  | [], σ, ρ, vs, xs, I, r, hl, h, q => by
    cases r with
    | nil => exact ⟨rfl, q σ ρ rfl (fun _ _ => rfl) I h⟩
    | cons a b => cases hl
  | i :: sl, σ, ρ, vs, xs, I, r, hl, h, q => by
    cases r with
    | nil => cases hl
    | @cons v x vs xs a b =>
      refine ⟨v, vs, rfl, names_ok sl (I.setV (i := i) a) b (by simpa using hl) h fun σ' ρ' h1 h2 I' h' => q σ' ρ' (by rw [h1, List.length_set]) (fun j hj => ?_) I' h'⟩
      rw [h2 j (fun z => hj (List.mem_cons_of_mem _ z)), getE_set, if_neg (fun z : i = j => hj (by rw [z]; exact List.mem_cons_self ..))]
end
namespace SG
variable {K : PySem.W.Frag}
def tup (sl : List Nat) : SG K where
  rd := gTup K sl.length (gNames sl)
  sl := sl
  wp := fun x ρ P => ∃ xs, x = .tup xs ∧ xs.length = sl.length ∧ P (setAll ρ sl xs)
  ok := by
    intro dk F0 H0 F σ H ρ v x P Q I r h q
    obtain ⟨xs, rfl, hl, h⟩ := h
    cases r with
    | tup s l => exact ⟨_, _, rfl, s, by rw [l.len]; exact hl, names_ok sl I l hl h q⟩
def unl (sl : List Nat) : SG K where
  rd := gUnl K sl.length (gNames sl)
  sl := sl
  wp := fun x ρ P => ∃ xs, x = .lst xs ∧ xs.length = sl.length ∧ P (setAll ρ sl xs)
  ok := by
    intro dk F0 H0 F σ H ρ v x P Q I r h q
    obtain ⟨xs, rfl, hl, h⟩ := h
    cases r with
    | lst f s l => exact ⟨_, _, rfl, SqL.of s, by rw [l.len]; exact hl, names_ok sl I l hl h q⟩
end SG
namespace SS
variable {K : PySem.W.Frag}
def asg2 (a : SE K) (g1 g2 : SG K) : SS K where
  rd := fun E => tAsg2 (a.rd E) g1.rd g2.rd
  wp := fun PE PD ρ => a.wp PE ρ fun x ρ1 => g1.wp x ρ1 fun ρ2 => g2.wp x ρ2 PD.nx
  ok := by
    intro dk F0 H0 F σ H ρ E PE D PD I e d h
    refine a.ok I e h fun v H1 F1 x ρ1 g I1 r1 h1 => ?_
    exact g1.ok I1 r1 h1 fun σ' ρ' _ _ I' h' => g2.ok I' r1 h' fun σ2 ρ2 _ _ I2 h2 => d.nx _ _ _ _ g I2 h2
end SS
/-! ### two stores at once -/
inductive PR (K : PySem.W.Frag) where
  | val (a : SE K)
  | own (n : SN K)
def PR.rd {K : PySem.W.Frag} : PR K → EK → TE
  | .val a => a.rd
  | .own n => n.rd
def PR.wp {K : PySem.W.Frag} : PR K → PEK → Env → (Sl → Env → Prop) → Prop
  | .val a, PE, ρ, P => a.wp PE ρ fun x ρ1 => P (.val x) ρ1
  | .own n, PE, ρ, P => n.wp PE ρ fun xs ρ1 => P (.own xs) ρ1
namespace SS
variable {K : PySem.W.Frag}
def par (i j : Nat) (a b : PR K) : SS K where
  rd := fun E => tPar i j (tCons (a.rd E) (tCons (b.rd E) tNil))
  wp := fun PE PD ρ => i ≠ j ∧ a.wp PE ρ fun x ρ1 => b.wp PE ρ1 fun y ρ2 => PD.nx ((ρ2.set i x).set j y)
  ok := by
    intro dk F0 H0 F σ H ρ E PE D PD I e d h
    obtain ⟨hij, h⟩ := h
    match a, h with
    | .val a, h =>
      refine a.ok I e h fun v H1 F1 x ρ1 g1 I1 r1 h1 => ?_
      match b, h1 with
      | .val b, h1 =>
        refine b.ok I1 (e.grow g1) h1 fun w H2 F2 y ρ2 g2 I2 r2 h2 => ?_
        exact ⟨v, w, rfl, d.nx _ _ _ _ (g1.trans g2) ((I2.setV (r1.mono g2)).setV r2) h2⟩
      | .own b, h1 =>
        refine b.ok I1 (e.grow g1) h1 fun c ws H2 F2 ys ρ2 g2 I2 e2 r2 a1 a2 a3 a4 h2 => ?_
        refine ⟨v, .ref c, rfl, d.nx _ _ _ _ (g1.trans g2) ((I2.setV (r1.mono g2)).setO (.own e2 r2) ⟨a1, a2⟩ fun k hk => ?_) h2⟩
        obtain ⟨s, hs, hw, ee⟩ := hk
        rw [getE_set] at hs ee
        by_cases hik : i = k
        · rw [if_pos hik] at hs
          split at hs
          · cases hs; cases hw
          · cases hs
        · rw [if_neg hik] at hs ee
          exact (a4 k ⟨s, hs, hw, ee⟩).elim
    | .own a, h =>
      refine a.ok I e h fun p vs H1 F1 xs ρ1 g1 I1 e1 r1 p1 p2 p3 p4 h1 => ?_
      have nf : ¬ F0 p := fun z => p2 (I1.st.f0 _ z)
      have IB := I1.rebase p1 p3 e1 p2 p4
      have EB := (e.grow g1).rebase (o := .lst vs) p1 p3
      match b, h1 with
      | .val b, h1 =>
        refine b.ok IB EB h1 fun w H2 F2 y ρ2 g2 I2 r2 h2 => ?_
        have e2 : H2 p = some (.lst vs) := I2.st.base p _ upd_same p3
        obtain ⟨f1, f2⟩ := I2.offD p1 nf
        have I3 := I2.unbase p1 p3
        exact ⟨.ref p, w, rfl, d.nx _ _ _ _ (g1.trans g2) ((I3.setO (i := i) (.own e2 (r1.mono g2)) ⟨p1, f1⟩ fun k hk => (f2 k hk).elim).setV r2) h2⟩
      | .own b, h1 =>
        refine b.ok IB EB h1 fun c ws H2 F2 ys ρ2 g2 I2 e2' r2 a1 a2 a3 a4 h2 => ?_
        have e2 : H2 p = some (.lst vs) := I2.st.base p _ upd_same p3
        obtain ⟨f1, f2⟩ := I2.offD p1 nf
        have I3 := I2.unbase p1 p3
        have hcp : c ≠ p := fun z => by rw [z, upd_same] at a1; cases a1
        rw [upd_ne hcp] at a1
        refine ⟨.ref p, .ref c, rfl, d.nx _ _ _ _ (g1.trans g2) ((I3.setO (i := i) (.own e2 (r1.mono g2)) ⟨p1, f1⟩ fun k hk => (f2 k hk).elim).setO (i := j) (.own e2' r2) ⟨a1, a2⟩ fun k hk => ?_) h2⟩
        obtain ⟨s, hs, hw, ee⟩ := hk
        rw [getE_set] at hs ee
        by_cases hik : i = k
        · rw [if_pos hik] at ee
          split at ee
          · cases ee; exact absurd rfl hcp
          · cases ee
        · rw [if_neg hik] at hs ee
          exact (a4 k ⟨s, hs, hw, ee⟩).elim
end SS
/-! ### what is walked -/
section
variable {K : PySem.W.Frag} {dk : Option Addr} {F : Addr → Prop} {H : Hp}
theorem walk_zipT {a b : Addr} {xs ys : List V} {n : Nat} (hn : n = min xs.length ys.length) : Walk (RZ.ItzT K a b) n (fun H => SqT K H a xs ∧ SqT K H b ys) (YPair (fun i => xs[i]?) (fun i => ys[i]?)) := by
  refine ⟨fun i H hi h => ?_, fun H h => ⟨xs, ys, h.1, h.2, by omega⟩, fun i H v H' hi h y => ?_⟩
  · exact ⟨xs, ys, xs[i]'(by omega), ys[i]'(by omega), h.1, h.2, List.getElem?_eq_getElem _, List.getElem?_eq_getElem _⟩
  · obtain ⟨T, x, y', hv, hT, hH, q1, q2⟩ := y
    exact ⟨T, x, y', hv, hT, hH, q1 xs h.1, q2 ys h.2⟩
end
end Tw
set_option Elab.async false
set_option linter.all false
set_option maxRecDepth 100000
set_option maxHeartbeats 4000000
/-! equal woods of a hundred levels -/
namespace Tw
open PySem PySem.Spec PyProof.Rows L2
section
variable {X : Cx} {k : Nat} {K : PySem.W.Frag} {H : Hp} {Q : VK}
abbrev rEqL (K : PySem.W.Frag) : R2 := fun x y H Q => ∃ d e, Dp K H x d ∧ Dp K H y e ∧ d.canLay0 = true ∧ e.canLay0 = true ∧ min d.depth e.depth ≤ 210 ∧ Q (.bl (PyData.eqv d e)) H
theorem op_eqL (hr : Room k X.A) (hk : 1 ≤ k) : OpR X (compareOp .Eq) (rEqL X.K) := by
  intro pins s σ H x y v u Q I rx ry h
  obtain ⟨d, e, hd, he, sd, se, m, q⟩ := h
  obtain ⟨as, r1⟩ := Dp.reads I d x v hd rx
  obtain ⟨bs, r2⟩ := Dp.reads I e y u he ry
  have hu := hr.un
  exact SeqAt.compareEq_reads r1 r2 sd se (by omega) ⟨.bl _, H, I, rfl, q⟩
theorem o_eqWoodL {a b : Addr} {f : Fo} (h1 : WoodAt K H a f) (h2 : WoodAt K H b f) (hn : ∀ z ∈ f.nm, IsName z) (hd : f.dp ≤ 100) (q : Q (.bl true) H) : rEqL K (.ref a) (.ref b) H Q := by
  have hl : PyData.canLay0 (.tuple f.data) = true := by rw [PyData.canLay0]; exact data_lay f hn
  have e := SeqAt.eqv_refl (.tuple f.data) hl
  have := data_depth f
  refine ⟨_, _, h1.dp, h2.dp, hl, hl, ?_, by rw [e]; exact q⟩
  simp only [PyData.depth]; omega
end
end Tw
set_option Elab.async false
set_option linter.all false
set_option maxRecDepth 100000
set_option maxHeartbeats 4000000
/-! odd values, as the laws draw them -/
namespace Tw
open PySem PySem.Spec PyProof.Rows L2 TL
local macro_rules | `(tactic| walk_at "rd") => `(tactic| try simp only [o_op, o_un, o_var, o_c, o_cb, o_call, o_cons, o_nil, o_tup, o_lst, o_I0, o_I, o_int1, o_intb, o_abs, o_test, o_b, o_not, o_and, o_or, o_andV, o_orV, o_notV, o_ifE, o_isN, o_notN, o_eq, o_ne, o_seq, o_next, o_asg, o_name, o_sub, o_par, o_par3, o_drop, o_ret, o_retN, o_ifS, o_sl, o_noPart, o_part, o_bm, o_bm0, o_m0, o_m1, o_dget, o_dput, o_din, o_dnotin, o_listKeys, e_bl, e_int, e_str, e_some, e_two, e_three, o_for, o_lc, o_iList, o_iTup, o_iRng1, e_int1, e_ref, o_yes, o_wipe0, o_wipe1, o_disp, o_dnew, o_pairs0, o_pairs1, o_lock, o_keysM, o_gtup, o_gcons, o_gnil, o_rU, o_tru, o_revT, o_enumT, o_from, true_and, if_pos, List.getElem?_cons_zero, List.getElem?_cons_succ, List.set_cons_zero, List.set_cons_succ, List.append_nil])
/-- an item: a text, or no text -/
def Itm (K : PySem.W.Frag) (H : Hp) (x : V) : Prop := (∃ z : Str, x = .str z ∧ z.length ≤ 1000) ∨ Nt K H x
/-- a value: a text, something else, or a tuple of a few items -/
def Val (K : PySem.W.Frag) (H : Hp) (v : V) : Prop := (∃ z : Str, v = .str z ∧ z.length ≤ 1000) ∨ Oth K H v ∨ ∃ p vs, v = .ref p ∧ SqT K H p vs ∧ vs.length ≤ 30 ∧ ∀ x ∈ vs, Itm K H x
theorem Itm.kp {K : PySem.W.Frag} {H H' : Hp} (k : Kp H H') {v : V} (h : Itm K H v) : Itm K H' v := h.elim .inl fun h => .inr (h.kp k)
theorem Itm.dk {K : PySem.W.Frag} {H H' : Hp} {d : Addr} (k : Dk d H H') (hd : DeckAt H d) {v : V} (h : Itm K H v) : Itm K H' v := h.elim .inl fun h => .inr (h.dk k hd)
theorem Val.kp {K : PySem.W.Frag} {H H' : Hp} (k : Kp H H') {v : V} (h : Val K H v) : Val K H' v := by
  rcases h with h | h | ⟨p, vs, e, h, hl, hi⟩
  · exact .inl h
  · exact .inr (.inl (h.kp k))
  · exact .inr (.inr ⟨p, vs, e, Tk.kp k _ _ h, hl, fun x hx => (hi x hx).kp k⟩)
theorem Val.dk {K : PySem.W.Frag} {H H' : Hp} {d : Addr} (k : Dk d H H') (hd : DeckAt H d) {v : V} (h : Val K H v) : Val K H' v := by
  rcases h with h | h | ⟨p, vs, e, h, hl, hi⟩
  · exact .inl h
  · exact .inr (.inl (h.dk k hd))
  · exact .inr (.inr ⟨p, vs, e, k.tk hd _ _ h, hl, fun x hx => (hi x hx).dk k hd⟩)
theorem Val.itm {K : PySem.W.Frag} {H : Hp} {v : V} (h : Val K H v) : Itm K H v := by
  rcases h with h | h | ⟨p, vs, rfl, h, _⟩
  · exact .inl h
  · exact .inr (.oth h)
  · exact .inr (.tup h)
/-- a value whose items are values -/
def Val2 (K : PySem.W.Frag) (H : Hp) (v : V) : Prop := (∃ z : Str, v = .str z ∧ z.length ≤ 1000) ∨ Oth K H v ∨ ∃ p vs, v = .ref p ∧ SqT K H p vs ∧ vs.length ≤ 30 ∧ ∀ x ∈ vs, Val K H x
theorem Val2.kp {K : PySem.W.Frag} {H H' : Hp} (k : Kp H H') {v : V} (h : Val2 K H v) : Val2 K H' v := by
  rcases h with h | h | ⟨p, vs, e, h, hl, hi⟩
  · exact .inl h
  · exact .inr (.inl (h.kp k))
  · exact .inr (.inr ⟨p, vs, e, Tk.kp k _ _ h, hl, fun x hx => (hi x hx).kp k⟩)
theorem Val2.dk {K : PySem.W.Frag} {H H' : Hp} {d : Addr} (k : Dk d H H') (hd : DeckAt H d) {v : V} (h : Val2 K H v) : Val2 K H' v := by
  rcases h with h | h | ⟨p, vs, e, h, hl, hi⟩
  · exact .inl h
  · exact .inr (.inl (h.dk k hd))
  · exact .inr (.inr ⟨p, vs, e, k.tk hd _ _ h, hl, fun x hx => (hi x hx).dk k hd⟩)
theorem Val2.val {K : PySem.W.Frag} {H : Hp} {v : V} (h : Val2 K H v) : Val K H v := by
  rcases h with h | h | ⟨p, vs, e, h, hl, hi⟩
  · exact .inl h
  · exact .inr (.inl h)
  · exact .inr (.inr ⟨p, vs, e, h, hl, fun x hx => (hi x hx).itm⟩)
/-- a reading that yields what P says, and keeps all -/
def Gd (P : Hp → V → Prop) (t : TE) : Prop := ∀ σ H Q, (∀ v H', Kp H H' → P H' v → Q v H') → t σ H Q
def GdA (P : Hp → V → Prop) (n : Nat) (t : TA) : Prop := ∀ σ H Q, (∀ vs H', Kp H H' → vs.length = n → (∀ x ∈ vs, P H' x) → Q vs H') → t σ H Q
theorem Kp.rfl' {H : Hp} : Kp H H := fun _ _ h => h
section
variable {K : PySem.W.Frag} {P : Hp → V → Prop}
theorem gd_nil : GdA P 0 tNil := fun σ H Q q => q [] H Kp.rfl' rfl fun _ h => by cases h
theorem gd_cons (st : ∀ H H' v, Kp H H' → P H v → P H' v) {n : Nat} {t : TE} {r : TA} (h1 : Gd P t) (h2 : GdA P n r) : GdA P (n + 1) (tCons t r) := fun σ H Q q =>
  h1 σ H _ fun v H1 k1 p1 => h2 σ H1 _ fun vs H2 k2 hl p2 => q (v :: vs) H2 (fun b o e => k2 _ _ (k1 _ _ e)) (by rw [List.length_cons, hl]) fun x hx => by
    rcases List.mem_cons.mp hx with e | hx
    · rw [e]; exact st _ _ _ k2 p1
    · exact p2 x hx
theorem gd_c {v : V} (h : ∀ H, P H v) : Gd P (tC v) := fun σ H Q q => q v H Kp.rfl' (h H)
theorem gd_lst {P' : Hp → V → Prop} {n : Nat} {t : TA} (h : GdA P' n t) (hn : n ≤ 1000) (h2 : ∀ H p xs, H p = some (.lst xs) → P H (.ref p)) : Gd P (tLst t) := fun σ H Q q =>
  h σ H _ fun vs H1 k1 hl p1 => ⟨by have := sizeLine_eq; omega, fun p hp => by
    generalize hG : upd H1 p _ = H2
    obtain ⟨k2, e2⟩ := gen_new hp hG
    exact q _ H2 (fun b o e => k2 _ _ (k1 _ _ e)) (h2 _ _ _ e2)⟩
theorem gd_tup {P' : Hp → V → Prop} {n : Nat} {t : TA} (st : ∀ H H' v, Kp H H' → P' H v → P' H' v) (h : GdA P' n t) (hn : n ≤ 1000) (h2 : ∀ H p xs, SqT K H p xs → xs.length = n → (∀ x ∈ xs, P' H x) → P H (.ref p)) : Gd P (tTup t) := fun σ H Q q =>
  h σ H _ fun vs H1 k1 hl p1 => ⟨by have := sizeLine_eq; omega, fun p hp => by
    generalize hG : upd H1 p _ = H2
    obtain ⟨k2, e2⟩ := gen_new hp hG
    exact q _ H2 (fun b o e => k2 _ _ (k1 _ _ e)) (h2 _ _ _ (SqT.of e2) hl fun x hx => st _ _ _ k2 (p1 x hx))⟩
theorem gd_dnew (h2 : ∀ H p xs, H p = some (.dK xs) → P H (.ref p)) : Gd P tDNewK := fun σ H Q q => fun p hp => by
  generalize hG : upd H p _ = H2
  obtain ⟨k2, e2⟩ := gen_new hp hG
  exact q _ H2 k2 (h2 _ _ _ e2)
/-- a display of constants -/
theorem gd_disp (kvs : List (Key × V)) (hl : kvs.length ≤ 15) (h2 : ∀ H p xs, H p = some (.dK xs) → P H (.ref p)) : Gd P (tDisp (kvs.map fun kv => (tC (kV kv.1), tC kv.2))) := fun σ H Q q => fun p hp => by
  generalize hG : upd H p _ = H2
  obtain ⟨k2, e2⟩ := gen_new hp hG
  have key : ∀ (l : List (Key × V)) (R : List (V × V) → Hp → Prop), R (l.map fun kv => (kV kv.1, kv.2)) H2 → tPairs (l.map fun kv => (tC (kV kv.1), tC kv.2)) σ H2 R := by
    intro l
    induction l with
    | nil => intro R h; exact h
    | cons x l ih => intro R h; exact ih _ h
  refine key kvs _ ⟨e2, kvs, rfl, hl, ?_⟩
  generalize hG : upd H2 p _ = H3
  obtain ⟨k3, e3⟩ := gen_chg hG
  exact q _ H3 (fun b o e => k3 _ _ (k2 _ _ e) (ne_of_none e hp)) (h2 _ _ _ e3)
end
def sp_l_odd (K : PySem.W.Frag) : Sp := fun vs H Q _ => ∃ a : Addr, vs = [.ref a] ∧ DeckAt H a ∧ ∀ v H', Dk a H H' → Val2 K H' v → Q v H'
def t_l_odd (K : PySem.W.Frag) : TS :=
  (tSeq (tAsg (tLst (tCons (tC .non) (tCons (tC (.bl true)) (tCons (tC (.bl false)) (tCons (tC (.int 0)) (tCons (tC (.int 1)) (tCons (tOp (rI0 fun i j => .int (i - j)) (tC (.int 0)) (tC (.int 7))) (tCons (tOp (rI CPow fun i j => .int (i ^ j.toNat)) (tC (.int 10)) (tC (.int 39))) (tCons (tC (.str "")) (tCons (tC (.str "A")) (tCons (tC (.str "a ")) (tCons (tC (.str "+a")) (tCons (tC (.str "aaaaaaaaa")) (tCons (tC (.str "a1")) (tCons (tC (.str "z")) (tCons (tC (.str "zzzzzzzz")) tNil)))))))))))))))) (gName 1))
  (tSeq (tAsg (tOp rCat (tVar 1) (tLst (tCons (tC (.str "`")) (tCons (tC (.str "a\n")) (tCons (tC (.str "{")) (tCons (tC (.str "a{")) (tCons (tLst (tCons (tC (.str "z")) (tCons (tTup tNil) tNil))) (tCons (tDisp [((tC (.str "a")), (tC (.int 1))), ((tC (.str "b")), (tC (.int 2)))]) tNil)))))))) (gName 1))
  (tSeq (tAsg (tOp rCat (tVar 1) (tLst (tCons (tTup (tCons (tC (.str "a")) tNil)) (tCons (tTup (tCons (tC (.str "z")) (tCons (tTup tNil) tNil))) (tCons (tLst (tCons (tC (.str "a")) tNil)) (tCons (tLst tNil) (tCons tDNewK (tCons (tDisp [((tC (.str "a")), (tC (.int 1)))]) (tCons (tTup tNil) (tCons (tTup (tCons (tTup tNil) (tCons (tTup tNil) tNil))) (tCons (tTup (tCons (tTup (tCons (tC (.str "z")) (tCons (tTup tNil) tNil))) tNil)) (tCons (tC (.str "first")) tNil)))))))))))) (gName 1))
  (tRet (tCall (sp_l_pick K) [] E0 (tCons (tVar 0) (tCons (tVar 1) tNil)))))))
section
variable {K : PySem.W.Frag}
theorem vst : ∀ H H' v, Kp H H' → Val K H v → Val K H' v := fun _ _ _ k h => h.kp k
theorem ist : ∀ H H' v, Kp H H' → Itm K H v → Itm K H' v := fun _ _ _ k h => h.kp k
theorem gv_s {z : Str} (h : z.length ≤ 1000 := by decide +kernel) : Gd (Val K) (tC (.str z)) := gd_c fun _ => .inl ⟨z, rfl, h⟩
theorem gi_s {z : Str} (h : z.length ≤ 1000 := by decide +kernel) : Gd (Itm K) (tC (.str z)) := gd_c fun _ => .inl ⟨z, rfl, h⟩
theorem gi_t0 : Gd (Itm K) (tTup tNil) := gd_tup (K := K) (P' := Itm K) ist gd_nil (by decide) fun _ _ _ h _ _ => .inr (.tup h)
theorem gi_t {n : Nat} {t : TA} (h : GdA (Itm K) n t) (hn : n ≤ 1000 := by decide) : Gd (Itm K) (tTup t) := gd_tup (K := K) (P' := Itm K) ist h hn fun _ _ _ h _ _ => .inr (.tup h)
theorem gv_t {n : Nat} {t : TA} (h : GdA (Itm K) n t) (hn : n ≤ 10 := by decide) : Gd (Val K) (tTup t) := gd_tup (K := K) (P' := Itm K) ist h (by omega) fun _ p xs h hl hi => .inr (.inr ⟨p, xs, rfl, h, by omega, hi⟩)
theorem gv_l {n : Nat} {t : TA} (h : GdA (Itm K) n t) (hn : n ≤ 1000 := by decide) : Gd (Val K) (tLst t) := gd_lst h hn fun _ _ _ h => .inr (.inl (.lst h))
theorem v2st : ∀ H H' v, Kp H H' → Val2 K H v → Val2 K H' v := fun _ _ _ k h => h.kp k
theorem g2_s {z : Str} (h : z.length ≤ 1000 := by decide +kernel) : Gd (Val2 K) (tC (.str z)) := gd_c fun _ => .inl ⟨z, rfl, h⟩
theorem g2_t {n : Nat} {t : TA} (h : GdA (Val K) n t) (hn : n ≤ 10 := by decide) : Gd (Val2 K) (tTup t) := gd_tup (K := K) (P' := Val K) vst h (by omega) fun _ p xs h hl hi => .inr (.inr ⟨p, xs, rfl, h, by omega, hi⟩)
theorem g2_l {n : Nat} {t : TA} (h : GdA (Itm K) n t) (hn : n ≤ 1000 := by decide) : Gd (Val2 K) (tLst t) := gd_lst h hn fun _ _ _ h => .inr (.inl (.lst h))
theorem g2_d (kvs : List (Key × V)) (hl : kvs.length ≤ 15 := by decide) : Gd (Val2 K) (tDisp (kvs.map fun kv => (tC (kV kv.1), tC kv.2))) := gd_disp kvs hl fun _ _ _ h => .inr (.inl (.dic h))
theorem gv_d (kvs : List (Key × V)) (hl : kvs.length ≤ 15 := by decide) : Gd (Val K) (tDisp (kvs.map fun kv => (tC (kV kv.1), tC kv.2))) := gd_disp kvs hl fun _ _ _ h => .inr (.inl (.dic h))
theorem ga_some1 : GdA (Val2 K) 15 (tCons (tC .non) (tCons (tC (.bl true)) (tCons (tC (.bl false)) (tCons (tC (.int 0)) (tCons (tC (.int 1)) (tCons (tOp (rI0 fun i j => .int (i - j)) (tC (.int 0)) (tC (.int 7))) (tCons (tOp (rI CPow fun i j => .int (i ^ j.toNat)) (tC (.int 10)) (tC (.int 39))) (tCons (tC (.str "")) (tCons (tC (.str "A")) (tCons (tC (.str "a ")) (tCons (tC (.str "+a")) (tCons (tC (.str "aaaaaaaaa")) (tCons (tC (.str "a1")) (tCons (tC (.str "z")) (tCons (tC (.str "zzzzzzzz")) tNil))))))))))))))) := by
  refine gd_cons v2st (gd_c fun _ => .inr (.inl .non)) (gd_cons v2st (gd_c fun _ => .inr (.inl (.bl _))) (gd_cons v2st (gd_c fun _ => .inr (.inl (.bl _))) (gd_cons v2st (gd_c fun _ => .inr (.inl (.int _))) (gd_cons v2st (gd_c fun _ => .inr (.inl (.int _))) (gd_cons v2st ?_ (gd_cons v2st ?_
    (gd_cons v2st g2_s (gd_cons v2st g2_s (gd_cons v2st g2_s (gd_cons v2st g2_s (gd_cons v2st g2_s (gd_cons v2st g2_s (gd_cons v2st g2_s (gd_cons v2st g2_s gd_nil))))))))))))))
  · intro σ H Q q
    walk_at "rd"
    exact q _ H Kp.rfl' (.inr (.inl (.int _)))
  · intro σ H Q q
    walk_at "rd"
    exact ⟨by unfold CPow; decide, q _ H Kp.rfl' (.inr (.inl (.int _)))⟩
theorem ga_some2 : GdA (Val2 K) 6 (tCons (tC (.str "`")) (tCons (tC (.str "a\n")) (tCons (tC (.str "{")) (tCons (tC (.str "a{")) (tCons (tLst (tCons (tC (.str "z")) (tCons (tTup tNil) tNil))) (tCons (tDisp [((tC (.str "a")), (tC (.int 1))), ((tC (.str "b")), (tC (.int 2)))]) tNil)))))) :=
  gd_cons v2st g2_s (gd_cons v2st g2_s (gd_cons v2st g2_s (gd_cons v2st g2_s (gd_cons v2st (g2_l (gd_cons ist gi_s (gd_cons ist gi_t0 gd_nil))) (gd_cons v2st (g2_d [(Sum.inr "a", .int 1), (Sum.inr "b", .int 2)]) gd_nil)))))
theorem ga_some3 : GdA (Val2 K) 10 (tCons (tTup (tCons (tC (.str "a")) tNil)) (tCons (tTup (tCons (tC (.str "z")) (tCons (tTup tNil) tNil))) (tCons (tLst (tCons (tC (.str "a")) tNil)) (tCons (tLst tNil) (tCons tDNewK (tCons (tDisp [((tC (.str "a")), (tC (.int 1)))]) (tCons (tTup tNil) (tCons (tTup (tCons (tTup tNil) (tCons (tTup tNil) tNil))) (tCons (tTup (tCons (tTup (tCons (tC (.str "z")) (tCons (tTup tNil) tNil))) tNil)) (tCons (tC (.str "first")) tNil)))))))))) :=
  gd_cons v2st (g2_t (gd_cons vst gv_s gd_nil)) (gd_cons v2st (g2_t (gd_cons vst gv_s (gd_cons vst (gv_t gd_nil) gd_nil))) (gd_cons v2st (g2_l (gd_cons ist gi_s gd_nil)) (gd_cons v2st (g2_l gd_nil) (gd_cons v2st (gd_dnew fun _ _ _ h => .inr (.inl (.dic h))) (gd_cons v2st (g2_d [(Sum.inr "a", .int 1)]) (gd_cons v2st (g2_t gd_nil)
    (gd_cons v2st (g2_t (gd_cons vst (gv_t gd_nil) (gd_cons vst (gv_t gd_nil) gd_nil))) (gd_cons v2st (g2_t (gd_cons vst (gv_t (gd_cons ist gi_s (gd_cons ist gi_t0 gd_nil))) gd_nil)) (gd_cons v2st g2_s gd_nil)))))))))
theorem len_l_odd (vs : List V) (H : Hp) (Q : VK) (E : XK) (h : sp_l_odd K vs H Q E) : vs.length = 1 := by
  obtain ⟨_, rfl, _⟩ := h; rfl
theorem pure_l_odd (vs : List V) (H : Hp) (Q : VK) (E : XK) (h : sp_l_odd K vs H Q E) : t_l_odd K { nx := fun _ H' => Q .non H', rt := Q } (startN 2 vs) H := by
  obtain ⟨a, rfl, hd, q⟩ := h
  show t_l_odd K _ [some (.ref a), none] H
  unfold t_l_odd
  have hz := sizeLine_eq
  rw [o_seq, o_asg, o_lst]
  refine ga_some1 (K := K) _ _ _ fun xs1 H1 k1 l1 g1 => ⟨by omega, fun p1 hp1 => ?_⟩
  generalize hG : upd H1 p1 _ = H2
  obtain ⟨k2, e2⟩ := gen_new hp1 hG
  clear hG
  have k02 : Kp H H2 := fun b o e => k2 _ _ (k1 _ _ e)
  simp only [o_name, List.set_cons_zero, List.set_cons_succ]
  rw [o_seq, o_asg, o_op, o_var]
  refine ⟨_, rfl, ?_⟩
  rw [o_lst]
  refine ga_some2 (K := K) _ _ _ fun xs2 H3 k3 l3 g3 => ⟨by omega, fun p2 hp2 => ?_⟩
  generalize hG : upd H3 p2 _ = H4
  obtain ⟨k4, e4⟩ := gen_new hp2 hG
  clear hG
  have k24 : Kp H2 H4 := fun b o e => k4 _ _ (k3 _ _ e)
  refine ⟨p1, p2, _, _, rfl, rfl, k24 _ _ e2, e4, by omega, fun p3 hp3 => ?_⟩
  generalize hG : upd H4 p3 _ = H5
  obtain ⟨k5, e5⟩ := gen_new hp3 hG
  clear hG
  simp only [o_name, List.set_cons_zero, List.set_cons_succ]
  rw [o_seq, o_asg, o_op, o_var]
  refine ⟨_, rfl, ?_⟩
  rw [o_lst]
  refine ga_some3 (K := K) _ _ _ fun xs3 H6 k6 l6 g6 => ⟨by omega, fun p4 hp4 => ?_⟩
  generalize hG : upd H6 p4 _ = H7
  obtain ⟨k7, e7⟩ := gen_new hp4 hG
  clear hG
  have k57 : Kp H5 H7 := fun b o e => k7 _ _ (k6 _ _ e)
  refine ⟨p3, p4, _, _, rfl, rfl, k57 _ _ e5, e7, by rw [List.length_append]; omega, fun p5 hp5 => ?_⟩
  generalize hG : upd H7 p5 _ = H8
  obtain ⟨k8, e8⟩ := gen_new hp5 hG
  clear hG
  have k08 : Kp H H8 := fun b o e => k8 _ _ (k57 _ _ (k5 _ _ (k24 _ _ (k02 _ _ e))))
  obtain ⟨x0, y0, z0, hdd⟩ := hd
  have hd8 : DeckAt H8 a := ⟨x0, y0, z0, k08 _ _ hdd⟩
  have h5a : p5 ≠ a := fun e => by
    have := k57 _ _ (k5 _ _ (k24 _ _ (k02 _ _ hdd)))
    rw [← e, hp5] at this; cases this
  walk_at "rd"
  refine ⟨a, p5, _, rfl, hd8, SqL.of e8, h5a, fun e => ?_, by rw [List.length_append, List.length_append]; omega, fun x H9 hx k9 => ?_⟩
  · have := congrArg List.length e
    rw [List.length_append, List.length_append, List.length_nil] at this; omega
  · refine q x H9 ⟨fun b o e n => k9.keep _ _ (k08 _ _ e) n, k9.deck⟩ (Val2.dk k9 hd8 ?_)
    rcases List.mem_append.mp hx with hx | hx
    · rcases List.mem_append.mp hx with hx | hx
      · exact (g1 x hx).kp fun b o e => k8 _ _ (k57 _ _ (k5 _ _ (k24 _ _ (k2 _ _ e))))
      · exact (g3 x hx).kp fun b o e => k8 _ _ (k57 _ _ (k5 _ _ (k4 _ _ e)))
    · exact (g6 x hx).kp fun b o e => k8 _ _ (k7 _ _ e)
end
end Tw
set_option Elab.async false
set_option linter.all false
set_option maxRecDepth 100000
set_option maxHeartbeats 4000000
/-! what is a deed: the program's deed_error, the laws' own -/
namespace Tw
open PySem PySem.Spec PyProof.Rows L2 TL
local macro_rules | `(tactic| walk_at "rd") => `(tactic| try simp only [o_op, o_un, o_var, o_c, o_cb, o_call, o_cons, o_nil, o_tup, o_lst, o_I0, o_I, o_int1, o_intb, o_abs, o_test, o_b, o_not, o_and, o_or, o_andV, o_orV, o_notV, o_ifE, o_isN, o_notN, o_eq, o_ne, o_seq, o_next, o_asg, o_name, o_sub, o_par, o_par3, o_drop, o_ret, o_retN, o_ifS, o_sl, o_noPart, o_part, o_bm, o_bm0, o_m0, o_m1, o_dget, o_dput, o_din, o_dnotin, o_listKeys, e_bl, e_int, e_str, e_some, e_two, e_three, o_for, o_lc, o_iList, o_iTup, o_iRng1, e_int1, e_ref, o_yes, o_wipe0, o_wipe1, o_disp, o_dnew, o_pairs0, o_pairs1, o_lock, o_keysM, o_gtup, o_gcons, o_gnil, o_rU, o_tru, o_revT, o_enumT, o_from, true_and, if_pos, List.getElem?_cons_zero, List.getElem?_cons_succ, List.set_cons_zero, List.set_cons_succ, List.append_nil])
theorem alpha128 : ∀ c : Fin 128, (Unicode.isAlpha c.val && !(Unicode.isUpper c.val || Unicode.isTitle c.val)) = true → 97 ≤ c.val ∧ c.val ≤ 122 := by decide +kernel
theorem name_of_B {z : Str} (h : nameB z = true) : IsName z := by
  unfold nameB Txt.isascii Txt.isalpha Txt.islower at h
  simp only [Bool.and_eq_true, Bool.not_eq_true', decide_eq_true_eq, decide_eq_false_iff_not, ← Array.all_toList, ← Array.any_toList, List.all_eq_true, List.any_eq_false, List.any_eq_true, Bool.or_eq_true, not_or] at h
  obtain ⟨h8, ha, ⟨hne, hal⟩, _, hup⟩ := h
  refine ⟨by omega, by omega, fun c hc => ?_⟩
  have h1 := ha c hc
  have h2 := hal c hc
  have h3 := hup c hc
  have := alpha128 ⟨c, h1⟩ (by simp only [Bool.and_eq_true, Bool.not_eq_true', Bool.or_eq_false_iff]; exact ⟨h2, by simpa using h3.1, by simpa using h3.2⟩)
  exact this
theorem letters_mem (c : Nat) : c ∈ ("abcdefghijklmnopqrstuvwxyz" : Str).cps.toList ↔ 97 ≤ c ∧ c ≤ 122 := by
  have e : ("abcdefghijklmnopqrstuvwxyz" : Str).cps.toList = List.range' 97 26 := by decide +kernel
  rw [e, List.mem_range'_1]; omega
abbrev rInSign : R2 := fun x y H Q => ∃ (c : Nat) (z : Str), x = .str ⟨#[c]⟩ ∧ y = .str z ∧ Q (.bl (decide (c ∈ z.cps.toList))) H
abbrev rNotInSign : R2 := fun x y H Q => ∃ (c : Nat) (z : Str), x = .str ⟨#[c]⟩ ∧ y = .str z ∧ Q (.bl (!decide (c ∈ z.cps.toList))) H
/-- a name among values -/
def isNm : V → Bool
  | .str z => nameB z
  | _ => false
theorem Nt.isNm {K : PySem.W.Frag} {H : Hp} {v : V} (h : Nt K H v) : isNm v = false := by
  cases h with
  | oth h => cases h <;> rfl
  | tup h => rfl
/-- what is told of a tuple's items -/
def dueT : List V → V
  | .str w :: r => if w ∈ words then if r.length = (if w ∈ words1 then 1 else 2) then if r.all isNm then .non else .str "name" else .str "deed" else .str "deed"
  | _ => .str "deed"
def sp_l_is_name (K : PySem.W.Frag) : Sp := fun vs H Q _ => ∃ x, vs = [x] ∧ Itm K H x ∧ ∀ H', Kp H H' → Q (.bl (isNm x)) H'
/-- a value handed to a judge of deeds -/
def Judge (K : PySem.W.Frag) (v : V) (H : Hp) (Q : VK) : Prop := Val K H v ∧ ∀ H', Kp H H' → Q (match v with | .ref _ => .non | _ => .non) H' → True
def sp_deed_error (K : PySem.W.Frag) : Sp := fun vs H Q _ => ∃ v, vs = [v] ∧ ((((∃ z : Str, v = .str z) ∨ Oth K H v) ∧ ∀ H', Kp H H' → Q (.str "deed") H') ∨ ∃ p xs, v = .ref p ∧ SqT K H p xs ∧ xs.length ≤ 30 ∧ (∀ x ∈ xs, Itm K H x) ∧ ∀ H', Kp H H' → Q (dueT xs) H')
abbrev sp_l_deed_error (K : PySem.W.Frag) : Sp := sp_deed_error K
def begB : List V → Bool
  | .str w :: r => decide (w ∈ words) && decide (r.length = if w ∈ words1 then 1 else 2)
  | _ => false
def sp_u_begins_well (K : PySem.W.Frag) : Sp := fun vs H Q _ => ∃ p xs, vs = [.ref p] ∧ SqT K H p xs ∧ xs.length ≤ 30 ∧ (∀ x ∈ xs, Itm K H x) ∧ Q (.bl (begB xs)) H
def t_l_is_name (K : PySem.W.Frag) : TS :=
  (tSeq (tIfS (tOr (tNot (tB (tIsi K "str" (tVar 0)))) (tOr (tTest (tOp rEq (tVar 0) (tC (.str "")))) (tTest (tOp (rI0 fun i j => .bl (decide (j < i))) (tCB rLenStr (tCons (tVar 0) tNil)) (tC (.int 8)))))) (tRet (tC (.bl false))) tNext)
  (tRet (tOp (rEqE K false) (tLc (iStr (tVar 0)) (gName 1) (tTest (tOp rNotInSign (tVar 1) (tC (.str "abcdefghijklmnopqrstuvwxyz")))) (tVar 1) [1]) (tLst tNil))))
def t_l_deed_error (K : PySem.W.Frag) : TS :=
  (tSeq (tIfS (tOr (tNot (tB (tIsi K "tuple" (tVar 0)))) (tOr (tTest (tOp (rEqE K false) (tVar 0) (tTup tNil))) (tNot (tB (tIsi K "str" (tOp (rIxT K) (tVar 0) (tC (.int 0)))))))) (tRet (tC (.str "deed"))) tNext)
  (tSeq (tIfS (tTest (tOp (rIn K true) (tOp (rIxT K) (tVar 0) (tC (.int 0))) (tCall (sp_l_words K) [] E0 tNil))) (tRet (tC (.str "deed"))) tNext)
  (tSeq (tIfS (tTest (tOp rNe (tCB (rLenSeq K) (tCons (tVar 0) tNil)) (tOp (rI0 fun i j => .int (i - j)) (tC (.int 3)) (tCB rInt1 (tCons (tOp (rIn K false) (tOp (rIxT K) (tVar 0) (tC (.int 0))) (tTup (tCons (tC (.str "front")) (tCons (tC (.str "back")) (tCons (tC (.str "lift")) (tCons (tC (.str "cut")) tNil)))))) tNil))))) (tRet (tC (.str "deed"))) tNext)
  (tSeq (tAsg (tLc (iTup K (L2.tSl (rSlA K) (tVar 0) (tPart (tC (.int 1))) tNoPart)) (gName 2) (tNot (tB (tCall (sp_l_is_name K) [] E0 (tCons (tVar 2) tNil)))) (tVar 2) [2]) (gName 1))
  (tRet (tIf (tTest (tOp (rEqE K true) (tVar 1) (tLst tNil))) (tC (.str "name")) (tC .non)))))))
def t_deed_error (K : PySem.W.Frag) : TS :=
  (tSeq (tIfS (tOr (tNot (tB (tIsi K "tuple" (tVar 0)))) (tNot (tB (tCall (sp_u_begins_well K) [] E0 (tCons (tVar 0) tNil))))) (tRet (tC (.str "deed"))) tNext)
  (tRet (tIf (tB (tCB (rAll K) (tCons (tLc (iTup K (L2.tSl (rSlA K) (tVar 0) (tPart (tC (.int 1))) tNoPart)) (gName 1) tYes (tCall (sp_is_name K) [] E0 (tCons (tVar 1) tNil)) [1]) tNil))) (tC .non) (tC (.str "name")))))
def t_u_begins_well (K : PySem.W.Frag) (w : World) (F_FORMS : Addr) : TS :=
  (tSeq (tIfS (tOr (tNot (tTru K (tVar 0))) (tOr (tNot (tB (tIsi K "str" (tOp (rIxT K) (tVar 0) (tC (.int 0)))))) (tTest (tOp (rInF true F_FORMS formsL) (tOp (rIxT K) (tVar 0) (tC (.int 0))) (tC (.ref F_FORMS)))))) (tRet (tC (.bl false))) tNext)
  (tRet (tOp rEq (tCB (rLenSeq K) (tCons (tVar 0) tNil)) (tOp (rI0 fun i j => .int (i + j)) (tC (.int 1)) (tCB rLenStr (tCons (tOp (rIxD K w) (tC (.ref F_FORMS)) (tOp (rIxT K) (tVar 0) (tC (.int 0)))) tNil))))))
section
variable {K : PySem.W.Frag} {w : World} {F_FORMS : Addr}
theorem len_l_is_name (vs : List V) (H : Hp) (Q : VK) (E : XK) (h : sp_l_is_name K vs H Q E) : vs.length = 1 := by
  obtain ⟨_, rfl, _⟩ := h; rfl
theorem len_deed_error (vs : List V) (H : Hp) (Q : VK) (E : XK) (h : sp_deed_error K vs H Q E) : vs.length = 1 := by
  obtain ⟨_, rfl, _⟩ := h; rfl
theorem len_l_deed_error (vs : List V) (H : Hp) (Q : VK) (E : XK) (h : sp_l_deed_error K vs H Q E) : vs.length = 1 := len_deed_error vs H Q E h
theorem len_u_begins_well (vs : List V) (H : Hp) (Q : VK) (E : XK) (h : sp_u_begins_well K vs H Q E) : vs.length = 1 := by
  obtain ⟨_, _, rfl, _⟩ := h; rfl
/-- the signs that are no letters, up to a place -/
def badS (z : Str) (i : Nat) : List V := ((z.cps.toList.take i).filter fun c => !decide (97 ≤ c ∧ c ≤ 122)).map fun c => V.str ⟨#[c]⟩
theorem badS_all (z : Str) : (badS z z.cps.size).isEmpty = decide (∀ c ∈ z.cps.toList, 97 ≤ c ∧ c ≤ 122) := by
  unfold badS
  have e : z.cps.toList.take z.cps.size = z.cps.toList := by rw [List.take_of_length_le]; simp
  rw [e, Bool.eq_iff_iff, decide_eq_true_eq, List.isEmpty_iff, List.map_eq_nil_iff, List.filter_eq_nil_iff]
  simp
theorem nameB_iff (z : Str) : nameB z = true ↔ IsName z := ⟨name_of_B, nameB_of⟩
theorem not_name {z : Str} (h : ¬ IsName z) : nameB z = false := by
  cases e : nameB z with
  | false => rfl
  | true => exact absurd (name_of_B e) h
theorem badS_le (z : Str) (i : Nat) : (badS z i).length ≤ i := by
  unfold badS
  rw [List.length_map]
  have := List.length_filter_le (fun c => !decide (97 ≤ c ∧ c ≤ 122)) (z.cps.toList.take i)
  rw [List.length_take] at this
  omega
theorem badS_step {z : Str} {i c : Nat} (h : z.cps[i]? = some c) : badS z (i + 1) = badS z i ++ if decide (97 ≤ c ∧ c ≤ 122) then [] else [V.str ⟨#[c]⟩] := by
  have h2 : z.cps.toList[i]? = some c := by simpa using h
  unfold badS
  rw [List.take_add_one, h2, List.filter_append, List.map_append]
  congr 1
  by_cases e : 97 ≤ c ∧ c ≤ 122
  · simp [e]
  · simp [e]; omega
theorem pure_l_is_name (vs : List V) (H : Hp) (Q : VK) (E : XK) (h : sp_l_is_name K vs H Q E) : t_l_is_name K { nx := fun _ H' => Q .non H', rt := Q } (startN 2 vs) H := by
  obtain ⟨x, rfl, hx, q⟩ := h
  show t_l_is_name K _ [some x, none] H
  unfold t_l_is_name
  have hz := sizeLine_eq
  walk_at "rd"
  rcases hx with ⟨z, rfl, hl⟩ | hx
  · refine o_isiS ?_
    walk_at "rd"
    simp only [Bool.not_true, Bool.false_eq_true, if_false]
    refine ⟨rfl, ite2 (fun he => ?_) fun he => ?_⟩
    · have e := V.str.inj (of_decide_eq_true he)
      have : nameB z = false := by rw [e]; decide +kernel
      have q1 := q H Kp.rfl'
      rw [show isNm (V.str z) = nameB z from rfl, this] at q1
      exact q1
    refine ⟨z, rfl, by omega, ?_⟩
    walk_at "rd"
    refine ite2 (fun h8 => ?_) fun h8 => ?_
    · have h8 := of_decide_eq_true h8
      have : nameB z = false := not_name fun n => by have := n.eight; omega
      have q1 := q H Kp.rfl'
      rw [show isNm (V.str z) = nameB z from rfl, this] at q1
      exact q1
    have h8 : z.length ≤ 8 := by
      have : ¬ (8 : Int) < z.length := fun e => h8 (decide_eq_true e)
      omega
    have hne : ¬ z = ("" : Str) := fun e => he (decide_eq_true (by rw [e]))
    refine ⟨.str z, rfl, z, rfl, ?_⟩
    refine lb_walk walk_str (fun D i H2 => H D = none ∧ Kp H H2 ∧ H2 D = some (.lst (badS z i))) ?_ ?_ ?_ ?_
    · intro D hD
      exact ⟨hD, Kp.rfl'.new hD, by rw [upd_same]; rfl⟩
    · intro D i H2 hi _; trivial
    · rintro D i x H2 H3 hi ⟨hD, k2, h2⟩ ⟨rfl, c, hc, rfl⟩
      show gName 1 (.str ⟨#[c]⟩) _ _ _
      walk_at "rd"
      refine ⟨c, _, rfl, rfl, ?_⟩
      rw [show decide (c ∈ ("abcdefghijklmnopqrstuvwxyz" : Str).cps.toList) = decide (97 ≤ c ∧ c ≤ 122) from by rw [decide_eq_decide]; exact letters_mem c]
      rw [badS_step hc]
      have hb := badS_le z i
      refine ⟨_, rfl, ?_⟩
      cases hd : decide (97 ≤ c ∧ c ≤ 122) with
      | true =>
        simp only [Bool.not_true, Bool.false_eq_true, if_false, if_true, List.append_nil]
        exact ⟨hD, k2, h2⟩
      | false =>
        simp only [Bool.not_false, if_true, Bool.false_eq_true, if_false]
        have : z.cps.size = z.length := rfl
        exact ⟨_, h2, by omega, hD, fun b o e => by rw [upd_ne (ne_of_none e hD)]; exact k2 _ _ e, by rw [upd_same]⟩
    · rintro D H2 hD ⟨_, k2, h2⟩
      refine ⟨Nat.zero_le _, fun p hp => ?_⟩
      generalize hG : upd H2 p _ = H3
      obtain ⟨k3, e3⟩ := gen_new hp hG
      clear hG
      refine ⟨D, p, _, rfl, rfl, .inl ⟨SqL.of (k3 _ _ h2), SqL.of e3⟩, ?_⟩
      rw [badS_all]
      have e : (false != decide (∀ c ∈ z.cps.toList, 97 ≤ c ∧ c ≤ 122)) = isNm (V.str z) := by
        show _ = nameB z
        have h1 : 1 ≤ z.length := by
          rcases Nat.eq_zero_or_pos z.length with h0 | h0
          · exact absurd (str_ext (by
              have : z.cps.toList.length = 0 := by rw [← len_tl]; exact h0
              rw [List.eq_nil_of_length_eq_zero this]; rfl)) hne
          · exact h0
        rw [Bool.eq_iff_iff, nameB_iff]
        constructor
        · intro h
          exact ⟨h1, h8, by simpa using h⟩
        · intro h
          have := h.let_
          simpa using this
      rw [e]
      exact q H3 fun b o e => k3 _ _ (k2 _ _ e)
  · refine o_isiN hx.noStr ?_
    walk_at "rd"
    rw [hx.isNm] at q
    simpa using q H Kp.rfl'
theorem keys_words : formsL.map (·.1) = words := rfl
theorem pure_u_begins_well (f_FORMS : FormsAt K w F_FORMS formsL) (vs : List V) (H : Hp) (Q : VK) (E : XK) (h : sp_u_begins_well K vs H Q E) : t_u_begins_well K w F_FORMS { nx := fun _ H' => Q .non H', rt := Q } (startN 1 vs) H := by
  obtain ⟨p, xs, rfl, hp, hl, hi, q⟩ := h
  show t_u_begins_well K w F_FORMS _ [some (.ref p)] H
  unfold t_u_begins_well
  have hz := sizeLine_eq
  walk_at "rd"
  refine ⟨_, .inr (.inl ⟨xs, hp, rfl⟩), ?_⟩
  cases xs with
  | nil => rw [show begB [] = false from rfl] at q; simpa using q
  | cons x r =>
    simp only [List.isEmpty_cons, Bool.not_false, Bool.not_true, Bool.false_eq_true, if_false]
    have h0 : atI (x :: r) 0 = some x := atI_nat (j := 0) rfl
    refine ⟨p, _, 0, x, rfl, rfl, hp, h0, ?_⟩
    rcases hi x (List.mem_cons_self ..) with ⟨z, rfl, hzl⟩ | hx
    · refine o_isiS ?_
      walk_at "rd"
      simp only [Bool.not_true, Bool.false_eq_true, if_false]
      refine ⟨p, _, 0, _, rfl, rfl, hp, h0, z, rfl, rfl, ?_⟩
      walk_at "rd"
      rw [keys_words]
      by_cases hw : z ∈ words
      · rw [decide_eq_true hw]
        simp only [Bool.bne_true, Bool.not_true, Bool.false_eq_true, if_false]
        obtain ⟨f, hf, hfl, _⟩ := forms_of hw
        refine ⟨p, _, rfl, .inr hp, p, _, 0, _, rfl, rfl, hp, h0, F_FORMS, z, _, rfl, rfl, f_FORMS.dct hf, f, rfl, ?_, ?_⟩
        · show f.cps.size ≤ _
          rw [hfl]; split <;> omega
        walk_at "rd"
        refine ⟨rfl, ?_⟩
        have e : decide (V.int ((V.str z :: r).length : Int) = V.int (1 + (f.length : Int))) = begB (V.str z :: r) := by
          show _ = (decide (z ∈ words) && decide (r.length = if z ∈ words1 then 1 else 2))
          rw [decide_eq_true hw, Bool.true_and, decide_eq_decide, ← hfl]
          constructor
          · intro h
            have := V.int.inj h
            rw [List.length_cons] at this
            have h2 : f.length = f.cps.size := rfl
            omega
          · intro h
            rw [List.length_cons, h]
            have h2 : f.length = f.cps.size := rfl
            congr 1; omega
        rw [e]; exact q
      · rw [decide_eq_false hw]
        have e : begB (V.str z :: r) = false := by
          show (decide (z ∈ words) && _) = false
          rw [decide_eq_false hw]; rfl
        rw [e] at q
        simpa using q
    · refine o_isiN hx.noStr ?_
      walk_at "rd"
      have e : begB (x :: r) = false := by
        cases hx with
        | oth h => cases h <;> rfl
        | tup h => rfl
      rw [e] at q
      simpa using q
theorem due_beg {xs : List V} (h : begB xs = false) : dueT xs = .str "deed" := by
  match xs, h with
  | [], _ => rfl
  | .str w :: r, h =>
    have h2 : (decide (w ∈ words) && decide (r.length = if w ∈ words1 then 1 else 2)) = false := h
    show (if w ∈ words then _ else _) = _
    by_cases hw : w ∈ words
    · rw [if_pos hw]
      rw [decide_eq_true hw, Bool.true_and, decide_eq_false_iff_not] at h2
      rw [if_neg h2]
    · rw [if_neg hw]
  | .non :: _, _ => rfl
  | .bl _ :: _, _ => rfl
  | .int _ :: _, _ => rfl
  | .byt _ :: _, _ => rfl
  | .flt _ :: _, _ => rfl
  | .ref _ :: _, _ => rfl
  | .ty _ :: _, _ => rfl
theorem beg_cons {xs : List V} (h : begB xs = true) : ∃ w r, xs = .str w :: r ∧ w ∈ words ∧ r.length = (if w ∈ words1 then 1 else 2) ∧ dueT xs = if r.all isNm then .non else .str "name" := by
  match xs, h with
  | .str w :: r, h =>
    have h2 : (decide (w ∈ words) && decide (r.length = if w ∈ words1 then 1 else 2)) = true := h
    rw [Bool.and_eq_true, decide_eq_true_eq, decide_eq_true_eq] at h2
    refine ⟨w, r, rfl, h2.1, h2.2, ?_⟩
    show (if w ∈ words then _ else _) = _
    rw [if_pos h2.1, if_pos h2.2]
theorem itm_is {K : PySem.W.Frag} {H : Hp} {Q : VK} {E : XK} {x : V} (h : Itm K H x) (q : Q (.bl (isNm x)) H) : sp_is_name K [x] H Q E := by
  rcases h with ⟨z, rfl, hz⟩ | h
  · exact ⟨_, rfl, .inl ⟨z, rfl, by have := sizeLine_eq; omega, q⟩⟩
  · rw [h.isNm] at q
    exact ⟨_, rfl, .inr ⟨h.noStr, q⟩⟩
theorem pure_deed_error (vs : List V) (H : Hp) (Q : VK) (E : XK) (h : sp_deed_error K vs H Q E) : t_deed_error K { nx := fun _ H' => Q .non H', rt := Q } (startN 2 vs) H := by
  obtain ⟨v, rfl, h⟩ := h
  show t_deed_error K _ [some v, none] H
  unfold t_deed_error
  have hz := sizeLine_eq
  walk_at "rd"
  rcases h with ⟨hv, q⟩ | ⟨p, xs, rfl, hp, hl, hi, q⟩
  · have : rIsiB K "tuple" [v, .ty "tuple"] H = fun Q => rIsiB K "tuple" [v, .ty "tuple"] H Q := rfl
    rcases hv with ⟨z, rfl⟩ | hv
    · refine o_isiTS ?_
      walk_at "rd"
      simpa using q H Kp.rfl'
    · refine o_isiTO hv ?_
      walk_at "rd"
      simpa using q H Kp.rfl'
  · refine o_isiT hp ?_
    walk_at "rd"
    simp only [Bool.not_true, Bool.false_eq_true, if_false]
    refine ⟨p, xs, rfl, hp, hl, hi, ?_⟩
    walk_at "rd"
    cases hb : begB xs with
    | false =>
      rw [due_beg hb] at q
      simpa using q H Kp.rfl'
    | true =>
      obtain ⟨w, r, rfl, hw, hrl, hd⟩ := beg_cons hb
      rw [hd] at q
      simp only [Bool.not_true, Bool.false_eq_true, if_false]
      refine o_slA hp fun b H1 k1 hb1 => ?_
      rw [cut_tail] at hb1
      refine ⟨b, rfl, ⟨_, hb1⟩, ?_⟩
      rw [List.length_cons] at hl
      refine lb_walk (n := r.length) walk_tup (fun D i H2 => H1 D = none ∧ Kp H1 H2 ∧ H2 D = some (.lst (((r.take i).map isNm).map V.bl))) ?_ ?_ ?_ ?_
      · intro D hD
        exact ⟨hD, Kp.rfl'.new hD, by rw [upd_same]; rfl⟩
      · rintro D i H2 _ ⟨hD, k2, _⟩
        exact Tk.kp k2 _ _ hb1
      · rintro D i x H2 H3 hi2 ⟨hD, k2, h2⟩ ⟨rfl, hx⟩
        show gName 1 x _ _ _
        walk_at "rd"
        have hix := (hi x (List.mem_cons_of_mem _ (List.mem_of_getElem? hx))).kp (fun b o e => k2 _ _ (k1 _ _ e))
        refine itm_is hix ?_
        refine ⟨_, h2, by rw [List.length_map, List.length_map, List.length_take]; omega, hD, fun b o e => ?_, ?_⟩
        · rw [upd_ne (ne_of_none e hD)]; exact k2 _ _ e
        · rw [upd_same, List.take_add_one, hx]; simp
      · rintro D H2 hD ⟨_, k2, h2⟩
        rw [List.take_length] at h2
        refine ⟨D, _, rfl, SqL.of h2, ?_⟩
        walk_at "rd"
        have q2 := q H2 fun b o e => k2 _ _ (k1 _ _ e)
        rw [List.all_map, Function.id_comp]
        cases hr : r.all isNm <;> rw [hr] at q2 <;> exact q2
theorem pure_l_deed_error (vs : List V) (H : Hp) (Q : VK) (E : XK) (h : sp_l_deed_error K vs H Q E) : t_l_deed_error K { nx := fun _ H' => Q .non H', rt := Q } (startN 3 vs) H := by
  obtain ⟨v, rfl, h⟩ := h
  show t_l_deed_error K _ [some v, none, none] H
  unfold t_l_deed_error
  have hz := sizeLine_eq
  walk_at "rd"
  rcases h with ⟨hv, q⟩ | ⟨p, xs, rfl, hp, hl, hi, q⟩
  · rcases hv with ⟨z, rfl⟩ | hv
    · refine o_isiTS ?_
      walk_at "rd"
      simpa using q H Kp.rfl'
    · refine o_isiTO hv ?_
      walk_at "rd"
      simpa using q H Kp.rfl'
  · refine o_isiT hp ?_
    walk_at "rd"
    simp only [Bool.not_true, Bool.false_eq_true, if_false]
    refine ⟨Nat.zero_le _, fun e hee => ?_⟩
    generalize hG : upd H e _ = H1
    obtain ⟨k1, e1⟩ := gen_new hee hG
    clear hG
    have hp1 := Tk.kp k1 _ _ hp
    refine ⟨p, e, xs, rfl, rfl, .inr ⟨rfl, hp1, SqT.of e1⟩, ?_⟩
    walk_at "rd"
    have hi1 : ∀ x ∈ xs, Itm K H1 x := fun x hx => (hi x hx).kp k1
    cases xs with
    | nil =>
      have q1 := q H1 k1
      rw [show dueT [] = .str "deed" from rfl] at q1
      simpa using q1
    | cons x r =>
      simp only [List.isEmpty_cons, Bool.bne_false, Bool.false_eq_true, if_false]
      have h0 : atI (x :: r) 0 = some x := atI_nat (j := 0) rfl
      refine ⟨p, _, 0, x, rfl, rfl, hp1, h0, ?_⟩
      rcases hi1 x (List.mem_cons_self ..) with ⟨z, rfl, hzl⟩ | hx
      · refine o_isiS ?_
        walk_at "rd"
        simp only [Bool.not_true, Bool.false_eq_true, if_false]
        refine ⟨p, _, 0, _, rfl, rfl, hp1, h0, rfl, fun wl H2 k2 _ ew => ?_⟩
        refine o_notinL ew ?_
        walk_at "rd"
        have hp2 := Tk.kp k2 _ _ hp1
        by_cases hw : z ∈ words
        · rw [decide_eq_true hw]
          simp only [Bool.not_true, Bool.false_eq_true, if_false]
          refine ⟨p, _, rfl, .inr hp2, p, _, 0, _, rfl, rfl, hp2, h0, by show 4 ≤ sizeLine; omega, fun f hf => ?_⟩
          generalize hG : upd H2 f _ = H3
          obtain ⟨k3, e3⟩ := gen_new hf hG
          clear hG
          refine ⟨f, _, rfl, .inr (SqT.of e3), rfl, rfl, ?_⟩
          walk_at "rd"
          have hp3 := Tk.kp k3 _ _ hp2
          have k03 : Kp H H3 := fun b o e => k3 _ _ (k2 _ _ (k1 _ _ e))
          have ei : inV (V.str z) [V.str "front", V.str "back", V.str "lift", V.str "cut"] = decide (z ∈ words1) := inV_str z words1
          simp only [Bool.false_eq_true, if_false]
          rw [ei]
          have ec : decide (V.int ((V.str z :: r).length : Int) = V.int (3 - if decide (z ∈ words1) = true then 1 else 0)) = decide (r.length = if z ∈ words1 then 1 else 2) := by
            rw [decide_eq_decide]
            by_cases h1 : z ∈ words1
            · simp only [h1, decide_true, if_true]
              constructor
              · intro h; have := V.int.inj h; rw [List.length_cons] at this; omega
              · intro h; rw [List.length_cons, h]; rfl
            · simp only [h1, decide_false, Bool.false_eq_true, if_false]
              constructor
              · intro h; have := V.int.inj h; rw [List.length_cons] at this; omega
              · intro h; rw [List.length_cons, h]; rfl
          refine ⟨rfl, ?_⟩
          rw [ec]
          by_cases hrl : r.length = if z ∈ words1 then 1 else 2
          · rw [decide_eq_true hrl]
            simp only [Bool.not_true, Bool.false_eq_true, if_false]
            have hd : dueT (V.str z :: r) = if r.all isNm then .non else .str "name" := by
              show (if z ∈ words then _ else _) = _
              rw [if_pos hw, if_pos hrl]
            rw [hd] at q
            refine o_slA hp3 fun b H4 k4 hb4 => ?_
            rw [cut_tail] at hb4
            refine ⟨b, rfl, ⟨_, hb4⟩, ?_⟩
            rw [List.length_cons] at hl
            refine lb_walk (n := r.length) walk_tup (fun D i H5 => H4 D = none ∧ Kp H4 H5 ∧ H5 D = some (.lst ((r.take i).filter fun v => !isNm v))) ?_ ?_ ?_ ?_
            · intro D hD
              exact ⟨hD, Kp.rfl'.new hD, by rw [upd_same]; rfl⟩
            · rintro D i H5 _ ⟨hD, k5, _⟩
              exact Tk.kp k5 _ _ hb4
            · rintro D i x H5 H6 hi2 ⟨hD, k5, h5⟩ ⟨rfl, hx⟩
              show gName 2 x _ _ _
              walk_at "rd"
              have hix := (hi x (List.mem_cons_of_mem _ (List.mem_of_getElem? hx))).kp (fun b o e => k5 _ _ (k4 _ _ (k03 _ _ e)))
              refine ⟨x, rfl, hix, fun H7 k7 => ?_⟩
              walk_at "rd"
              have h7 := k7 _ _ h5
              have hle : ((r.take i).filter fun v => !isNm v).length ≤ 30 := by
                have := List.length_filter_le (fun v => !isNm v) (r.take i)
                rw [List.length_take] at this
                omega
              have estep : (r.take (i + 1)).filter (fun v => !isNm v) = (r.take i).filter (fun v => !isNm v) ++ if !isNm x then [x] else [] := by
                rw [List.take_add_one, hx, List.filter_append]
                cases hn : isNm x <;> simp [hn]
              rw [estep]
              cases hn : isNm x with
              | true =>
                simp only [Bool.not_true, Bool.false_eq_true, if_false, List.append_nil]
                exact ⟨hD, fun b o e => k7 _ _ (k5 _ _ e), h7⟩
              | false =>
                simp only [Bool.not_false, if_true]
                exact ⟨_, h7, by omega, hD, fun b o e => by rw [upd_ne (ne_of_none e hD)]; exact k7 _ _ (k5 _ _ e), by rw [upd_same]⟩
            · rintro D H5 hD ⟨_, k5, h5⟩
              rw [List.take_length] at h5
              refine ⟨Nat.zero_le _, fun pe hpe => ?_⟩
              generalize hG : upd H5 pe _ = H6
              obtain ⟨k6, e6⟩ := gen_new hpe hG
              clear hG
              refine ⟨D, pe, _, rfl, rfl, .inl ⟨SqL.of (k6 _ _ h5), SqL.of e6⟩, ?_⟩
              walk_at "rd"
              have q2 := q H6 fun b o e => k6 _ _ (k5 _ _ (k4 _ _ (k03 _ _ e)))
              have ea : ((r.filter fun v => !isNm v).isEmpty) = r.all isNm := by
                rw [Bool.eq_iff_iff, List.isEmpty_iff, List.filter_eq_nil_iff, List.all_eq_true]
                simp
              rw [ea]
              cases hr : r.all isNm <;> rw [hr] at q2 <;> simpa using q2
          · rw [decide_eq_false hrl]
            have e : dueT (V.str z :: r) = .str "deed" := due_beg (by
              show (_ && decide (r.length = if z ∈ words1 then 1 else 2)) = false
              rw [decide_eq_false hrl, Bool.and_false])
            rw [e] at q
            simpa using q H3 k03
        · rw [decide_eq_false hw]
          have e : dueT (V.str z :: r) = .str "deed" := due_beg (by
            show (decide (z ∈ words) && _) = false
            rw [decide_eq_false hw]; rfl)
          rw [e] at q
          simpa using q H2 fun b o e => k2 _ _ (k1 _ _ e)
      · refine o_isiN hx.noStr ?_
        walk_at "rd"
        have e : dueT (x :: r) = .str "deed" := by
          cases hx with
          | oth h => cases h <;> rfl
          | tup h => rfl
        rw [e] at q
        simpa using q H1 k1
end
end Tw
set_option Elab.async false
set_option linter.all false
set_option maxRecDepth 100000
set_option maxHeartbeats 4000000
/-! The plain layer: what is walked; texts; equality of deep data; what is shown. -/
namespace Tw
open PySem PySem.Spec PyProof.Rows L2
section
variable {K : PySem.W.Frag} {dk : Option Addr} {F : Addr → Prop} {H : Hp}
theorem walk_pair {J : It} {n : Nat} {G : Hp → Prop} {fx fy : Nat → Option V} {xs ys : List PV} (w : Walk J n G (YPair fx fy)) (hn : n = min xs.length ys.length) (hG : ∀ F' H', Grow K F H F' H' → G H')
    (h1 : ∀ i v, i < n → fx i = some v → ∃ x, xs[i]? = some x ∧ Rep K dk F H v x) (h2 : ∀ i v, i < n → fy i = some v → ∃ y, ys[i]? = some y ∧ Rep K dk F H v y) : WalkOk K dk F H J ((xs.zip ys).map fun p => .tup [p.1, p.2]) := by
  have hl : ((xs.zip ys).map fun p => PV.tup [p.1, p.2]).length = n := by rw [List.length_map, List.length_zip, hn]
  refine ⟨G, YPair fx fy, by rw [hl]; exact w, hG, ?_⟩
  rintro i F' H' v H'' hi g ⟨T, x, y, rfl, hT, rfl, e1, e2⟩
  rw [hl] at hi
  obtain ⟨px, hx, rx⟩ := h1 i x hi e1
  obtain ⟨py, hy, ry⟩ := h2 i y hi e2
  refine ⟨.inr ⟨T, _, hT, rfl⟩, .tup [px, py], ?_, .tup (SqT.of upd_same) (.cons ((rx.mono g).mono (Grow.new hT)) (.one ((ry.mono g).mono (Grow.new hT))))⟩
  rw [List.getElem?_map, show (xs.zip ys)[i]? = some (px, py) from by rw [List.getElem?_zip_eq_some]; exact ⟨hx, hy⟩]
  rfl
end
/-- what zip yields -/
abbrev zipP (xs ys : List PV) : List PV := (xs.zip ys).map fun p => .tup [p.1, p.2]
/-- what enumerate yields -/
abbrev enumP (xs : List PV) : List PV := zipP ((List.range xs.length).map fun i => .int (i : Nat)) xs
namespace SI
variable {K : PySem.W.Frag}
/-- zip of two tuples, of two lists -/
def zipA (a b : SE K) : SI K where
  rd := fun E => RZ.iZipA K (tCons (a.rd E) (tCons (b.rd E) tNil))
  wp := fun PE ρ P => a.wp PE ρ fun x ρ1 => b.wp PE ρ1 fun y ρ2 => ∃ xs ys, ((x = .lst xs ∧ y = .lst ys) ∨ (x = .tup xs ∧ y = .tup ys)) ∧ P (zipP xs ys) ρ2
  ok := by
    intro dk F0 H0 F σ H ρ E PE P R I e h q
    refine a.ok I e h fun v H1 F1 x ρ1 g1 I1 r1 h1 => ?_
    refine b.ok I1 (e.grow g1) h1 fun w H2 F2 y ρ2 g2 I2 r2 h2 => ?_
    obtain ⟨xs, ys, hxy, h2⟩ := h2
    have r1' := r1.mono g2
    rcases hxy with ⟨rfl, rfl⟩ | ⟨rfl, rfl⟩
    · cases r1' with
      | lst f1 s1 l1 =>
        cases r2 with
        | lst f2 s2 l2 =>
          refine ⟨_, _, _, _, rfl, .inl ⟨SqL.of s1, SqL.of s2, q _ _ _ _ _ (g1.trans g2) I2 ?_ h2⟩⟩
          exact walk_pair (walk_zip rfl) (by rw [l1.len, l2.len]) (fun F' H' g => ⟨SqL.of (g.keep _ _ f1 s1), SqL.of (g.keep _ _ f2 s2)⟩) (fun i v _ e => l1.get e) fun i v _ e => l2.get e
    · cases r1' with
      | tup s1 l1 =>
        cases r2 with
        | tup s2 l2 =>
          refine ⟨_, _, _, _, rfl, .inr ⟨s1, s2, q _ _ _ _ _ (g1.trans g2) I2 ?_ h2⟩⟩
          exact walk_pair (walk_zipT rfl) (by rw [l1.len, l2.len]) (fun F' H' g => ⟨g.tup _ _ s1, g.tup _ _ s2⟩) (fun i v _ e => l1.get e) fun i v _ e => l2.get e
theorem enum_at {K : PySem.W.Frag} {dk : Option Addr} {F : Addr → Prop} {H : Hp} {n : Nat} (i : Nat) (v : V) (hi : i < n) (e : (some (V.int (i : Nat)) : Option V) = some v) : ∃ x, ((List.range n).map fun i => PV.int (i : Nat))[i]? = some x ∧ Rep K dk F H v x := by
  cases e
  exact ⟨_, by rw [List.getElem?_map, List.getElem?_range hi]; rfl, .int _⟩
def enumL (a : SE K) : SI K where
  rd := fun E => iEnum K (tCons (a.rd E) tNil)
  wp := fun PE ρ P => a.wp PE ρ fun x ρ1 => ∃ xs, x = .lst xs ∧ P (enumP xs) ρ1
  ok := by
    intro dk F0 H0 F σ H ρ E PE P R I e h q
    refine a.ok I e h fun v H1 F1 x ρ1 g1 I1 r1 h1 => ?_
    obtain ⟨xs, rfl, h1⟩ := h1
    cases r1 with
    | lst f s l =>
      refine ⟨_, _, rfl, SqL.of s, q _ _ _ _ _ g1 I1 ?_ h1⟩
      exact walk_pair walk_enum (by simp [l.len]) (fun F' H' g => SqL.of (g.keep _ _ f s)) (fun i v hi e => enum_at i v (by rw [← l.len]; exact hi) e) fun i v _ e => l.get e
def enumT (a : SE K) : SI K where
  rd := fun E => iEnumT K (tCons (a.rd E) tNil)
  wp := fun PE ρ P => a.wp PE ρ fun x ρ1 => ∃ xs, x = .tup xs ∧ P (enumP xs) ρ1
  ok := by
    intro dk F0 H0 F σ H ρ E PE P R I e h q
    refine a.ok I e h fun v H1 F1 x ρ1 g1 I1 r1 h1 => ?_
    obtain ⟨xs, rfl, h1⟩ := h1
    cases r1 with
    | tup s l =>
      refine ⟨_, _, rfl, s, q _ _ _ _ _ g1 I1 ?_ h1⟩
      exact walk_pair walk_enumT (by simp [l.len]) (fun F' H' g => g.tup _ _ s) (fun i v hi e => enum_at i v (by rw [← l.len]; exact hi) e) fun i v _ e => l.get e
theorem walkR {K : PySem.W.Frag} {dk : Option Addr} {F : Addr → Prop} {H : Hp} {lo : Int} {n : Nat} : WalkOk K dk F H (Itr lo n) ((List.range n).map fun i => .int (lo + (i : Nat))) := by
  refine ⟨fun _ => True, YFn fun i => .int (lo + i), by simp only [List.length_map, List.length_range]; exact walk_range, fun _ _ _ => trivial, ?_⟩
  rintro i F' H' v H'' hi g ⟨rfl, rfl⟩
  simp only [List.length_map, List.length_range] at hi
  exact ⟨.inl rfl, _, by rw [List.getElem?_map, List.getElem?_range hi]; rfl, .int _⟩
/-- range(n) -/
def rng1 (a : SA K) : SI K where
  rd := fun E => iRng1 (a.rd E)
  wp := fun PE ρ P => a.wp PE ρ fun xs ρ1 => ∃ j : Int, xs = [.int j] ∧ -(2 ^ 62) ≤ j ∧ j < 2 ^ 62 ∧ P ((List.range j.toNat).map fun i => .int (i : Nat)) ρ1
  ok := by
    intro dk F0 H0 F σ H ρ E PE P R I e h q
    refine a.ok I e h fun vs H1 F1 xs ρ1 g1 I1 r1 h1 => ?_
    obtain ⟨j, rfl, j1, j2, h1⟩ := h1
    cases r1 with
    | cons a b =>
      cases a; cases b
      refine ⟨j, rfl, j1, j2, q _ _ _ _ _ g1 I1 ?_ h1⟩
      have := @walkR K dk F1 H1 0 j.toNat
      simpa using this
/-- range(m, n) -/
def rng2 (a : SA K) : SI K where
  rd := fun E => iRng2 (a.rd E)
  wp := fun PE ρ P => a.wp PE ρ fun xs ρ1 => ∃ i j : Int, xs = [.int i, .int j] ∧ -(2 ^ 62) ≤ i ∧ i < 2 ^ 62 ∧ -(2 ^ 62) ≤ j ∧ j < 2 ^ 62 ∧ P ((List.range (j - i).toNat).map fun k => .int (i + (k : Nat))) ρ1
  ok := by
    intro dk F0 H0 F σ H ρ E PE P R I e h q
    refine a.ok I e h fun vs H1 F1 xs ρ1 g1 I1 r1 h1 => ?_
    obtain ⟨i, j, rfl, i1, i2, j1, j2, h1⟩ := h1
    cases r1 with
    | cons a b =>
      cases b with
      | cons c d =>
        cases a; cases c; cases d
        exact ⟨i, j, rfl, ⟨i1, i2, j1, j2⟩, q _ _ _ _ _ g1 I1 walkR h1⟩
/-- the signs of a text -/
def str (a : SE K) : SI K where
  rd := fun E => iStr (a.rd E)
  wp := fun PE ρ P => a.wp PE ρ fun x ρ1 => ∃ z : Str, x = .str z ∧ P (z.cps.toList.map fun c => .str ⟨#[c]⟩) ρ1
  ok := by
    intro dk F0 H0 F σ H ρ E PE P R I e h q
    refine a.ok I e h fun v H1 F1 x ρ1 g1 I1 r1 h1 => ?_
    obtain ⟨z, rfl, h1⟩ := h1
    cases r1
    refine ⟨z, rfl, q _ _ _ _ _ g1 I1 ⟨fun _ => True, fun i H v H' => H' = H ∧ ∃ c, z.cps[i]? = some c ∧ v = .str ⟨#[c]⟩, by simp only [List.length_map, Array.length_toList]; exact walk_str, fun _ _ _ => trivial, ?_⟩ h1⟩
    rintro i F' H' v H'' hi g ⟨rfl, c, hc, rfl⟩
    exact ⟨.inl rfl, _, by rw [List.getElem?_map, Array.getElem?_toList, hc]; rfl, .str _⟩
end SI
/-! ### texts -/
namespace SU
variable {K : PySem.W.Frag}
def neg : SU K where
  rd := rU fun i => .int (-i)
  wp := fun x P => ∃ i, x = .int i ∧ P (.int (-i))
  ok := by
    rintro dk F0 H0 F σ H ρ v x P Q I r ⟨i, rfl, h⟩ q
    cases r
    exact ⟨i, rfl, q _ _ _ _ Grow.refl I (.int _) h⟩
end SU
/-- what a list of parts yields -/
def wpJs {K : PySem.W.Frag} (PE : PEK) : List (SE K) → Str → Env → (Str → Env → Prop) → Prop
  | [], acc, ρ, P => P acc ρ
  | t :: ts, acc, ρ, P => t.wp PE ρ fun x ρ1 => ∃ y : Str, x = .str y ∧ (acc ++ y).length ≤ sizeLine ∧ wpJs PE ts (acc ++ y) ρ1 P
namespace SE
variable {K : PySem.W.Frag}
def fmt (a : SE K) : SE K where
  rd := fun E => tFmt (a.rd E)
  wp := fun PE ρ P => a.wp PE ρ fun x ρ1 => (∃ y : Str, x = .str y ∧ y.length ≤ sizeLine ∧ P (.str y) ρ1) ∨ ∃ i : Int, x = .int i ∧ i.natAbs.log2 < 1920 ∧ P (.str (toString i)) ρ1
  ok := by
    intro dk F0 H0 F σ H ρ E PE P Q I e h q
    refine a.ok I e h fun v H1 F1 x ρ1 g1 I1 r1 h1 => ?_
    rcases h1 with ⟨y, rfl, hy, h1⟩ | ⟨i, rfl, hi, h1⟩
    · cases r1; exact .inl ⟨y, rfl, hy, q _ _ _ _ _ g1 I1 (.str _) h1⟩
    · cases r1; exact .inr ⟨i, rfl, hi, q _ _ _ _ _ g1 I1 (.str _) h1⟩
theorem js_ok {dk : Option Addr} {F0 : Addr → Prop} {H0 : Hp} {σ : L2.St} {E : EK} {PE : PEK} {P : Str → Env → Prop} {Q : Str → Hp → Prop} : ∀ (ts : List (SE K)) {acc : Str} {F : Addr → Prop} {H : Hp} {ρ : Env}, PInv K dk F0 H0 F σ H ρ → ErrS K dk F0 H0 F H E PE → wpJs PE ts acc ρ P →
    (∀ y H' F' ρ', Grow K F H F' H' → PInv K dk F0 H0 F' σ H' ρ' → P y ρ' → Q y H') → tJs (ts.map fun t => t.rd E) acc σ H Q
  | [], acc, F, H, ρ, I, e, h, q => q _ _ _ _ Grow.refl I h
  | t :: ts, acc, F, H, ρ, I, e, h, q => by
    refine t.ok I e h fun v H1 F1 x ρ1 g1 I1 r1 h1 => ?_
    obtain ⟨y, rfl, hz, h1⟩ := h1
    cases r1
    exact ⟨y, rfl, hz, js_ok ts I1 (e.grow g1) h1 fun y H' F' ρ' g => q y H' F' ρ' (g1.trans g)⟩
def joined (ts : List (SE K)) : SE K where
  rd := fun E => tJoined (ts.map fun t => t.rd E)
  wp := fun PE ρ P => wpJs PE ts Str.empty ρ fun y ρ1 => P (.str y) ρ1
  ok := fun I e h q => js_ok ts I e h fun y H' F' ρ' g I' h' => q _ _ _ _ _ g I' (.str _) h'
/-- "".join(xs) -/
def join (a b : SE K) : SE K where
  rd := fun E => tM1 (rJoin K) (a.rd E) (b.rd E)
  wp := fun PE ρ P => a.wp PE ρ fun x ρ1 => ∃ z : Str, x = .str z ∧ b.wp PE ρ1 fun y ρ2 => ∃ ys : List Str, (y = .lst (ys.map .str) ∨ y = .tup (ys.map .str)) ∧ (ys.map (·.length)).sum + ys.length * z.length ≤ 16777216 ∧ P (.str (Txt.join z ys)) ρ2
  ok := by
    intro dk F0 H0 F σ H ρ E PE P Q I e h q
    refine a.ok I e h fun v H1 F1 x ρ1 g1 I1 r1 h1 => ?_
    obtain ⟨z, rfl, h1⟩ := h1
    cases r1
    refine ⟨⟨z, rfl⟩, b.ok I1 (e.grow g1) h1 fun w H2 F2 y ρ2 g2 I2 r2 h2 => ?_⟩
    obtain ⟨ys, hy, hz, h2⟩ := h2
    rcases hy with rfl | rfl
    · cases r2 with
      | lst f s l => have := l.strs; subst this; exact ⟨z, _, ys, rfl, rfl, .inl (SqL.of s), hz, q _ _ _ _ _ (g1.trans g2) I2 (.str _) h2⟩
    · cases r2 with
      | tup s l => have := l.strs; subst this; exact ⟨z, _, ys, rfl, rfl, .inr s, hz, q _ _ _ _ _ (g1.trans g2) I2 (.str _) h2⟩
def txtB (f : Str → Bool) (a : SE K) : SE K where
  rd := fun E => tM0 (rTxtB f) (a.rd E)
  wp := fun PE ρ P => a.wp PE ρ fun x ρ1 => ∃ z : Str, x = .str z ∧ P (.bl (f z)) ρ1
  ok := by
    intro dk F0 H0 F σ H ρ E PE P Q I e h q
    refine a.ok I e h fun v H1 F1 x ρ1 g1 I1 r1 h1 => ?_
    obtain ⟨z, rfl, h1⟩ := h1
    cases r1
    exact ⟨⟨z, rfl⟩, z, rfl, rfl, trivial, q _ _ _ _ _ g1 I1 (.bl _) h1⟩
/-- len(set(t)), t a tuple of texts -/
def lenSetT (a : SE K) : SE K where
  rd := fun E => tLenSetT K (a.rd E)
  wp := fun PE ρ P => a.wp PE ρ fun x ρ1 => ∃ zs : List Str, x = .tup (zs.map .str) ∧ zs.length < 4000 ∧ P (.int (dcnt zs zs.length : Nat)) ρ1
  ok := by
    intro dk F0 H0 F σ H ρ E PE P Q I e h q
    refine a.ok I e h fun v H1 F1 x ρ1 g1 I1 r1 h1 => ?_
    obtain ⟨zs, rfl, hz, h1⟩ := h1
    cases r1 with
    | tup s l => have := l.strs; subst this; exact ⟨_, zs, rfl, s, hz, q _ _ _ _ _ g1 I1 (.int _) h1⟩
/-- t[::-1] -/
def revT (a : SE K) : SE K where
  rd := fun E => tRevT K (a.rd E)
  wp := fun PE ρ P => a.wp PE ρ fun x ρ1 => ∃ xs, x = .tup xs ∧ P (.tup xs.reverse) ρ1
  ok := by
    intro dk F0 H0 F σ H ρ E PE P Q I e h q
    refine a.ok I e h fun v H1 F1 x ρ1 g1 I1 r1 h1 => ?_
    obtain ⟨xs, rfl, h1⟩ := h1
    cases r1 with
    | tup s l => exact ⟨_, _, rfl, s, fun p hp => q _ _ _ _ _ (g1.trans (Grow.new hp)) (I1.new hp) (.tup (SqT.of upd_same) (l.rev.mono (Grow.new hp))) h1⟩
/-- a < b < c -/
def chain (o o' : SO K) (a b c : SE K) : SE K where
  rd := fun E => tChain o.rd o'.rd (a.rd E) (b.rd E) (c.rd E)
  wp := fun PE ρ P => a.wp PE ρ fun x ρ1 => b.wp PE ρ1 fun y ρ2 => o.wp x y fun z => ∃ k, z = .bl k ∧ if k = true then c.wp PE ρ2 fun w ρ3 => o'.wp y w fun u => P u ρ3 else P (.bl false) ρ2
  ok := by
    intro dk F0 H0 F σ H ρ E PE P Q I e h q
    refine a.ok I e h fun v H1 F1 x ρ1 g1 I1 r1 h1 => ?_
    refine b.ok I1 (e.grow g1) h1 fun w H2 F2 y ρ2 g2 I2 r2 h2 => ?_
    refine o.ok I2 (r1.mono g2) r2 h2 fun z H3 F3 u g3 I3 r3 h3 => ?_
    obtain ⟨k, rfl, h3⟩ := h3
    cases r3
    have g13 := (g1.trans g2).trans g3
    refine ⟨k, rfl, ?_⟩
    cases k with
    | false => exact q _ _ _ _ _ g13 I3 (.bl _) h3
    | true =>
      refine c.ok I3 (e.grow g13) h3 fun s H4 F4 t ρ4 g4 I4 r4 h4 => ?_
      exact o'.ok I4 ((r2.mono g3).mono g4) r4 h4 fun z H5 F5 u g5 I5 r5 h5 => q _ _ _ _ _ ((g13.trans g4).trans g5) I5 r5 h5
end SE
namespace SO
variable {K : PySem.W.Frag}
/-- == of deep data -/
def eqL : SO K where
  rd := rEqL K
  wp := fun x y P => x.plain = true ∧ y.plain = true ∧ x.pd.canLay0 = true ∧ y.pd.canLay0 = true ∧ min x.pd.depth y.pd.depth ≤ 210 ∧ P (.bl (PyData.eqv x.pd y.pd))
  ok := by
    rintro dk F0 H0 F σ H ρ v w x y P Q I r1 r2 ⟨a, b, c, d, e, h⟩ q
    exact ⟨_, _, r1.dp a, r2.dp b, c, d, e, q _ _ _ _ Grow.refl I (.bl _) h⟩
/-- a sign in a text -/
def inSign (neg : Bool) : SO K where
  rd := if neg then rNotInSign else rInSign
  wp := fun x y P => ∃ (c : Nat) (z : Str), x = .str ⟨#[c]⟩ ∧ y = .str z ∧ P (.bl (neg != decide (c ∈ z.cps.toList)))
  ok := by
    rintro dk F0 H0 F σ H ρ v w x y P Q I r1 r2 ⟨c, z, rfl, rfl, h⟩ q
    cases r1; cases r2
    cases neg with
    | true => exact ⟨c, z, rfl, rfl, by have := q _ _ _ _ Grow.refl I (.bl _) h; simpa using this⟩
    | false => exact ⟨c, z, rfl, rfl, by have := q _ _ _ _ Grow.refl I (.bl _) h; simpa using this⟩
/-- t == (), xs == [] (a list or tuple against an empty display) -/
def eqE (neg : Bool) : SO K where
  rd := rEqE K neg
  wp := fun x y P => ∃ xs, ((x = .lst xs ∧ y = .lst []) ∨ (neg = false ∧ x = .tup xs ∧ y = .tup [])) ∧ P (.bl (neg != xs.isEmpty))
  ok := by
    rintro dk F0 H0 F σ H ρ v w x y P Q I r1 r2 ⟨xs, hx, h⟩ q
    rcases hx with ⟨rfl, rfl⟩ | ⟨hn, rfl, rfl⟩
    · cases r1 with
      | lst f1 s1 l1 =>
        cases r2 with
        | lst f2 s2 l2 => cases l2; exact ⟨_, _, _, rfl, rfl, .inl ⟨SqL.of s1, SqL.of s2⟩, by rw [l1.emp]; exact q _ _ _ _ Grow.refl I (.bl _) h⟩
    · cases r1 with
      | tup s1 l1 =>
        cases r2 with
        | tup s2 l2 => cases l2; exact ⟨_, _, _, rfl, rfl, .inr ⟨hn, s1, s2⟩, by rw [l1.emp]; exact q _ _ _ _ Grow.refl I (.bl _) h⟩
end SO
namespace SB
variable {K : PySem.W.Frag}
/-- repr(x) of a list or tuple -/
def repr : SB K where
  rd := rRepr K
  wp := fun xs P => ∃ x ys, xs = [x] ∧ (x = .lst ys ∨ x = .tup ys) ∧ x.plain = true ∧ x.pd.showable = true ∧ x.pd.hasDict = false ∧ x.pd.depth ≤ 100 ∧ x.pd.shown.length ≤ sizeLine ∧ P (.str x.pd.shown)
  ok := by
    rintro dk F0 H0 F σ H ρ vs xs P Q I r ⟨x, ys, rfl, hx, a, b, c, d, e, h⟩ q
    cases r with
    | cons r1 r2 =>
      cases r2
      rcases hx with rfl | rfl
      · cases r1 with
        | lst f s l => exact ⟨_, _, rfl, Rep.dp (.lst f s l) a, b, c, d, e, q _ _ _ _ Grow.refl I (.str _) h⟩
      · cases r1 with
        | tup s l => exact ⟨_, _, rfl, Rep.dp (.tup s l) a, b, c, d, e, q _ _ _ _ Grow.refl I (.str _) h⟩
end SB
end Tw
set_option Elab.async false
set_option linter.all false
set_option maxRecDepth 100000
set_option maxHeartbeats 4000000
/-! a pick of a list, a tuple or a text; the laws' menus of names -/
namespace Tw
open PySem PySem.Spec PyProof.Rows L2 TL
local macro_rules | `(tactic| walk_at "rd") => `(tactic| try simp only [o_op, o_un, o_var, o_c, o_cb, o_call, o_cons, o_nil, o_tup, o_lst, o_I0, o_I, o_int1, o_intb, o_abs, o_test, o_b, o_not, o_and, o_or, o_andV, o_orV, o_notV, o_ifE, o_isN, o_notN, o_eq, o_ne, o_seq, o_next, o_asg, o_name, o_sub, o_par, o_par3, o_drop, o_ret, o_retN, o_ifS, o_sl, o_noPart, o_part, o_bm, o_bm0, o_m0, o_m1, o_dget, o_dput, o_din, o_dnotin, o_listKeys, e_bl, e_int, e_str, e_some, e_two, e_three, o_for, o_lc, o_iList, o_iTup, o_iRng1, e_int1, e_ref, o_yes, o_wipe0, o_wipe1, o_disp, o_dnew, o_pairs0, o_pairs1, o_lock, o_keysM, o_gtup, o_gcons, o_gnil, o_rU, o_tru, o_revT, o_enumT, o_from, true_and, if_pos, List.getElem?_cons_zero, List.getElem?_cons_succ, List.set_cons_zero, List.set_cons_succ, List.append_nil])
/-! ### one rule or the other -/
abbrev rLenA (K : PySem.W.Frag) : List V → Hp → VK → Prop := fun xs H Q => rLenStr xs H Q ∨ rLenSeq K xs H Q
abbrev rIxA (K : PySem.W.Frag) : R2 := fun x y H Q => rIxL K x y H Q ∨ rIxT K x y H Q ∨ rIxS x y H Q
theorem call_lenA {X : Cx} : CallR X (.builtin "len") (rLenA X.K) := by
  intro pins s σ H xs us Q I r h
  rcases h with h | h
  · exact call_len_str pins s σ H xs us Q I r h
  · exact call_len_seq pins s σ H xs us Q I r h
theorem ix_any {X : Cx} : IxR X (rIxA X.K) := by
  intro vl sl pins s σ H x y v u Q I rx ry h hs
  rcases h with h | h | h
  · exact ix_list vl sl pins s σ H x y v u Q I rx ry h hs
  · exact ix_tup vl sl pins s σ H x y v u Q I rx ry h hs
  · exact ix_str vl sl pins s σ H x y v u Q I rx ry h hs
/-- what a pick yields of what it is given -/
def sp_l_pickA (K : PySem.W.Frag) : Sp := fun vs H Q _ => ∃ (a : Addr) (v : V), vs = [.ref a, v] ∧ DeckAt H a ∧
  ((∃ (l : Addr) (xs : List V), v = .ref l ∧ ((SqL K H l xs ∧ l ≠ a) ∨ SqT K H l xs) ∧ xs ≠ [] ∧ xs.length ≤ 1000000 ∧ ∀ (x : V) (H' : Hp), x ∈ xs → Dk a H H' → Q x H') ∨
   (∃ z : Str, v = .str z ∧ 1 ≤ z.length ∧ z.length ≤ 1000000 ∧ ∀ (c : Nat) (H' : Hp), c ∈ z.cps.toList → Dk a H H' → Q (.str ⟨#[c]⟩) H'))
def t_l_pickA (K : PySem.W.Frag) : TS :=
  (tRet (tOp (rIxA K) (tVar 1) (tCall sp_l_draw [] E0 (tCons (tVar 0) (tCons (tCB (rLenA K) (tCons (tVar 1) tNil)) tNil)))))
def sp_l_menu (K : PySem.W.Frag) : Sp := fun vs H Q _ => ∃ (a : Addr) (many : Int), vs = [.ref a, .int many] ∧ DeckAt H a ∧ 0 ≤ many ∧ many ≤ 4 ∧
  ∀ (p : Addr) (zs : List Str) (H' : Hp), Dk a H H' → SqT K H' p (zs.map V.str) → (zs.length : Int) = many → zs.Nodup → (∀ z ∈ zs, IsName z) → Q (.ref p) H'
def t_l_menu (K : PySem.W.Frag) : TS :=
  (tSeq (tAsg (tLst (tCons (tTup (tCons (tC (.str "a")) (tCons (tC (.str "b")) (tCons (tC (.str "c")) (tCons (tC (.str "d")) tNil))))) (tCons (tTup (tCons (tC (.str "x")) (tCons (tC (.str "xa")) (tCons (tC (.str "ab")) (tCons (tC (.str "b")) tNil))))) (tCons (tTup (tCons (tC (.str "aaaaaaaa")) (tCons (tC (.str "aaaaaaab")) (tCons (tC (.str "z")) (tCons (tC (.str "zz")) tNil))))) tNil)))) (gName 2))
  (tSeq (tDrop (tBM K "list" rAppend (tVar 2) (tCons (tTup (tCons (tC (.str "top")) (tCons (tC (.str "menu")) (tCons (tC (.str "it")) (tCons (tC (.str "d")) tNil))))) tNil)))
  (tSeq (tAsg (tCall sp_l_draw [] E0 (tCons (tVar 0) (tCons (tC (.int 8)) tNil))) (gName 3))
  (tSeq (tIfS (tTest (tOp (rI0 fun i j => .bl (decide (i < j))) (tVar 3) (tC (.int 4)))) (tSeq (tAsg (tCall sp_l_draw [] E0 (tCons (tVar 0) (tCons (tC (.int 4)) tNil))) (gName 4))
  (tRet (L2.tSl (rSlA K) (tOp (rCatA K) (tOp (rIxL K) (tVar 2) (tVar 3)) (tOp (rIxL K) (tVar 2) (tVar 3))) (tPart (tVar 4)) (tPart (tOp (rI0 fun i j => .int (i + j)) (tVar 4) (tVar 1)))))) tNext)
  (tSeq (tAsg (tC (.str "abcdefghijklmnopqrstuvwxyz")) (gName 5))
  (tSeq (tAsg (tM1 (rJoin K) (tC (.str "")) (tLc (iRng1 (tCons (tOp (rI0 fun i j => .int (i + j)) (tC (.int 1)) (tCall sp_l_draw [] E0 (tCons (tVar 0) (tCons (tC (.int 8)) tNil)))) tNil)) (gName 11) tYes (tCall (sp_l_pickA K) [] E0 (tCons (tVar 0) (tCons (tVar 5) tNil))) [11])) (gName 6))
  (tSeq (tAsg (tTup (tCons (tCall sp_l_draw [] E0 (tCons (tVar 0) (tCons (tCB rLenStr (tCons (tVar 6) tNil)) tNil))) (tCons (tCall sp_l_draw [] E0 (tCons (tVar 0) (tCons (tC (.int 26)) tNil))) tNil))) (gTup K 2 (gCons (gName 7) (gCons (gName 8) gNil))))
  (tSeq (tAsg (tOp (rI0 fun i j => .int (i + j)) (tC (.int 1)) (tOp (rI CMul fun i j => .int (i * j)) (tC (.int 2)) (tCall sp_l_draw [] E0 (tCons (tVar 0) (tCons (tC (.int 6)) tNil))))) (gName 9))
  (tSeq (tAsg (tLc (iRng1 (tCons (tVar 1) tNil)) (gName 11) tYes (tOp rIxS (tVar 5) (tOp (rI (fun _ j => 0 < j) fun i j => .int (i % j)) (tCB rInt1 (tCons (tOp (rI0 fun i j => .int (i + j)) (tVar 8) (tOp (rI CMul fun i j => .int (i * j)) (tVar 9) (tVar 11))) tNil)) (tC (.int 26)))) [11]) (gName 10))
  (tRet (tCB (rTupleOf K) (tCons (tLc (iList K (tVar 10)) (gName 12) tYes (tOp rAddStr (tOp rAddStr (L2.tSl rSlS (tVar 6) tNoPart (tPart (tVar 7))) (tVar 12)) (L2.tSl rSlS (tVar 6) (tPart (tOp (rI0 fun i j => .int (i + j)) (tVar 7) (tC (.int 1)))) tNoPart)) [12]) tNil))))))))))))
section
variable {K : PySem.W.Frag}
theorem len_l_pickA (vs : List V) (H : Hp) (Q : VK) (E : XK) (h : sp_l_pickA K vs H Q E) : vs.length = 2 := by
  obtain ⟨_, _, rfl, _⟩ := h; rfl
theorem len_l_menu (vs : List V) (H : Hp) (Q : VK) (E : XK) (h : sp_l_menu K vs H Q E) : vs.length = 2 := by
  obtain ⟨_, _, rfl, _⟩ := h; rfl
theorem pure_l_pickA (vs : List V) (H : Hp) (Q : VK) (E : XK) (h : sp_l_pickA K vs H Q E) : t_l_pickA K { nx := fun _ H' => Q .non H', rt := Q } (startN 2 vs) H := by
  obtain ⟨a, v, rfl, hd, h⟩ := h
  show t_l_pickA K _ [some (.ref a), some v] H
  unfold t_l_pickA
  have hz := sizeLine_eq
  walk_at "rd"
  rcases h with ⟨l, xs, rfl, hl, hne, hsz, q⟩ | ⟨z, rfl, h1, hsz, q⟩
  · have h1 : 1 ≤ xs.length := by cases xs with | nil => exact absurd rfl hne | cons _ _ => simp
    refine .inr ⟨l, _, rfl, hl.imp (fun h => h.1) (fun h => h), ?_⟩
    refine o_draw hd (by omega) (by omega) fun c H1 c0 c1 k1 => ?_
    obtain ⟨j, rfl⟩ : ∃ j : Nat, c = (j : Int) := ⟨c.toNat, by omega⟩
    have hj : j < xs.length := by omega
    have ht := atI_nat (v := xs[j]) (List.getElem?_eq_getElem hj)
    rcases hl with ⟨hl, hla⟩ | hl
    · exact .inl (o_ixLq (SqL.keep hl hla k1.keep) ht (q _ H1 (List.getElem_mem hj) k1))
    · exact .inr (.inl ⟨l, _, _, _, rfl, rfl, k1.tk hd _ _ hl, ht, q _ H1 (List.getElem_mem hj) k1⟩)
  · refine .inl ⟨z, rfl, by omega, ?_⟩
    refine o_draw hd (by omega) (by omega) fun c H1 c0 c1 k1 => ?_
    obtain ⟨j, rfl⟩ : ∃ j : Nat, c = (j : Int) := ⟨c.toNat, by omega⟩
    have hj : j < z.cps.toList.length := by rw [← len_tl]; omega
    exact .inr (.inr (o_ixS (by omega) (atI_nat (v := z.cps.toList[j]) (List.getElem?_eq_getElem hj)) (q _ H1 (List.getElem_mem hj) k1)))
def menus : List (List Str) := [["a", "b", "c", "d"], ["x", "xa", "ab", "b"], ["aaaaaaaa", "aaaaaaab", "z", "zz"], ["top", "menu", "it", "d"]]
def nameC (z : Str) : Bool := decide (1 ≤ z.length ∧ z.length ≤ 8) && z.cps.toList.all fun c => decide (97 ≤ c ∧ c ≤ 122)
theorem nameC_ok {z : Str} (h : nameC z = true) : IsName z := by
  unfold nameC at h
  obtain ⟨h1, h2⟩ := Bool.and_eq_true_iff.mp h
  have h1 := of_decide_eq_true h1
  exact ⟨h1.1, h1.2, fun c hc => of_decide_eq_true (List.all_eq_true.mp h2 c hc)⟩
theorem menus_ok : ∀ w : Fin 4, ∀ f : Fin 4, ∀ m : Fin 5, ((((menus.getD w.val []) ++ (menus.getD w.val [])).drop f.val).take m.val).length = m.val ∧ ((((menus.getD w.val []) ++ (menus.getD w.val [])).drop f.val).take m.val).Nodup ∧ ((((menus.getD w.val []) ++ (menus.getD w.val [])).drop f.val).take m.val).all nameC = true := by decide +kernel
theorem signs_ok : ∀ b : Fin 26, ∀ s : Fin 6, ∀ m : Fin 5, ((List.range m.val).map fun k => (b.val + (1 + 2 * s.val) * k) % 26).Nodup := by decide +kernel
/-- a letter put in the place of one -/
def putL (t : Str) (at_ : Nat) (c : Nat) : Str := cutS t none (some (at_ : Int)) ++ (⟨#[c]⟩ : Str) ++ cutS t (some ((at_ + 1 : Nat) : Int)) none
theorem putL_cps (t : Str) (at_ c : Nat) : (putL t at_ c).cps.toList = t.cps.toList.take at_ ++ c :: t.cps.toList.drop (at_ + 1) := by
  unfold putL
  rw [tl_app, tl_app, tl_cut, tl_cut, HT.sIx_none, HT.sIx_none, HT.sIx_nat, HT.sIx_nat, len_tl]
  rw [List.drop_zero, Nat.sub_zero]
  have e1 : (t.cps.toList.drop (min (at_ + 1) t.cps.toList.length)).take (t.cps.toList.length - min (at_ + 1) t.cps.toList.length) = t.cps.toList.drop (at_ + 1) := by
    rw [List.take_of_length_le (by rw [List.length_drop]; omega)]
    by_cases h : at_ + 1 ≤ t.cps.toList.length
    · rw [Nat.min_eq_left h]
    · rw [Nat.min_eq_right (by omega), List.drop_length, List.drop_eq_nil_iff.mpr (by omega)]
  rw [e1]
  have e2 : t.cps.toList.take (min at_ t.cps.toList.length) = t.cps.toList.take at_ := by
    by_cases h : at_ ≤ t.cps.toList.length
    · rw [Nat.min_eq_left h]
    · rw [Nat.min_eq_right (by omega), List.take_length, List.take_of_length_le (by omega)]
  rw [e2]
  show t.cps.toList.take at_ ++ [c] ++ _ = _
  rw [List.append_assoc]; rfl
theorem putL_inj {t : Str} {at_ c d : Nat} (h : putL t at_ c = putL t at_ d) : c = d := by
  have h1 := congrArg (fun s : Str => s.cps.toList) h
  simp only [putL_cps] at h1
  have := List.append_cancel_left h1
  exact (List.cons.inj this).1
theorem putL_name {t : Str} {at_ c : Nat} (ht : IsName t) (ha : at_ < t.length) (hc : 97 ≤ c ∧ c ≤ 122) : IsName (putL t at_ c) := by
  have hl : (putL t at_ c).length = t.length := by
    rw [len_tl, putL_cps, List.length_append, List.length_cons, List.length_take, List.length_drop, ← len_tl]; omega
  refine ⟨by rw [hl]; exact ht.one, by rw [hl]; exact ht.eight, fun x hx => ?_⟩
  rw [putL_cps] at hx
  rcases List.mem_append.mp hx with hx | hx
  · exact ht.let_ x (List.mem_of_mem_take hx)
  · rcases List.mem_cons.mp hx with rfl | hx
    · exact hc
    · exact ht.let_ x (List.mem_of_mem_drop hx)
theorem abc_mem {c : Nat} (h : c ∈ abc.cps.toList) : 97 ≤ c ∧ c ≤ 122 := by
  have e : abc.cps.toList = List.range' 97 26 := by decide +kernel
  rw [e, List.mem_range'_1] at h; omega
theorem pure_l_menu (vs : List V) (H : Hp) (Q : VK) (E : XK) (h : sp_l_menu K vs H Q E) : t_l_menu K { nx := fun _ H' => Q .non H', rt := Q } (startN 13 vs) H := by
  obtain ⟨a, many, rfl, hd, m0, m1, q⟩ := h
  show t_l_menu K _ [some (.ref a), some (.int many), none, none, none, none, none, none, none, none, none, none, none] H
  unfold t_l_menu
  have hz := sizeLine_eq
  obtain ⟨m, rfl⟩ : ∃ m : Nat, many = (m : Int) := ⟨many.toNat, by omega⟩
  walk_at "rd"
  refine ⟨by show 4 ≤ sizeLine; omega, fun p1 hp1 => ?_⟩
  generalize hG : upd H p1 _ = H1
  obtain ⟨k1, e1⟩ := gen_new hp1 hG
  clear hG
  refine ⟨by show 4 ≤ sizeLine; omega, fun p2 hp2 => ?_⟩
  generalize hG : upd H1 p2 _ = H2
  obtain ⟨k2, e2⟩ := gen_new hp2 hG
  clear hG
  refine ⟨by show 4 ≤ sizeLine; omega, fun p3 hp3 => ?_⟩
  generalize hG : upd H2 p3 _ = H3
  obtain ⟨k3, e3⟩ := gen_new hp3 hG
  clear hG
  refine ⟨by show 3 ≤ sizeLine; omega, fun l hl => ?_⟩
  generalize hG : upd H3 l _ = H4
  obtain ⟨k4, e4⟩ := gen_new hl hG
  clear hG
  walk_at "rd"
  refine ⟨.inl ⟨rfl, _, SqL.of e4⟩, by show 4 ≤ sizeLine; omega, fun p5 hp5 => ?_⟩
  generalize hG : upd H4 p5 _ = H5
  obtain ⟨k5, e5⟩ := gen_new hp5 hG
  clear hG
  have k34 : Kp H H4 := fun b o e => k4 _ _ (k3 _ _ (k2 _ _ (k1 _ _ e)))
  have k05 : Kp H H5 := fun b o e => k5 _ _ (k34 _ _ e)
  have lH : H l = none := Kp.free (fun b o e => k3 _ _ (k2 _ _ (k1 _ _ e))) hl
  have hla : l ≠ a := deck_ne hd lH
  refine ⟨l, _, _, rfl, rfl, k5 _ _ e4, by show 3 < sizeLine; omega, ?_⟩
  generalize hG : upd H5 l _ = H6
  obtain ⟨k6, e6⟩ := gen_chg hG
  clear hG
  have k06 : Kp H H6 := fun b o e => k6 _ _ (k05 _ _ e) (ne_of_none e lH)
  have t56 : Tk K H5 H6 := Tk.but (.inl ⟨_, k5 _ _ e4⟩) k6
  have s1 : SqT K H6 p1 ((["a", "b", "c", "d"] : List Str).map V.str) := t56 _ _ (SqT.of (k5 _ _ (k4 _ _ (k3 _ _ (k2 _ _ e1)))))
  have s2 : SqT K H6 p2 ((["x", "xa", "ab", "b"] : List Str).map V.str) := t56 _ _ (SqT.of (k5 _ _ (k4 _ _ (k3 _ _ e2))))
  have s3 : SqT K H6 p3 ((["aaaaaaaa", "aaaaaaab", "z", "zz"] : List Str).map V.str) := t56 _ _ (SqT.of (k5 _ _ (k4 _ _ e3)))
  have s5 : SqT K H6 p5 ((["top", "menu", "it", "d"] : List Str).map V.str) := t56 _ _ (SqT.of e5)
  have hd6 : DeckAt H6 a := by obtain ⟨x, y, z, e⟩ := hd; exact ⟨x, y, z, k06 _ _ e⟩
  walk_at "rd"
  refine o_draw hd6 (by decide) (by decide) fun way H7 w0 w1 k7 => ?_
  obtain ⟨w, rfl⟩ : ∃ w : Nat, way = (w : Int) := ⟨way.toNat, by omega⟩
  walk_at "rd"
  by_cases hw : w < 4
  · have e : decide ((w : Int) < 4) = true := by rw [decide_eq_true_eq]; omega
    rw [e]
    simp only [if_true]
    walk_at "rd"
    refine o_draw k7.deck (by decide) (by decide) fun fst H8 f0 f1 k8 => ?_
    obtain ⟨f, rfl⟩ : ∃ f : Nat, fst = (f : Int) := ⟨fst.toNat, by omega⟩
    walk_at "rd"
    have k68 := k7.trans k8
    have hl8 := k68.keep _ _ e6 hla
    obtain ⟨pw, hpw, hsw⟩ : ∃ pw, ([V.ref p1, V.ref p2, V.ref p3] ++ [V.ref p5])[w]? = some (.ref pw) ∧ SqT K H6 pw ((menus.getD w []).map V.str) := by
      have : w = 0 ∨ w = 1 ∨ w = 2 ∨ w = 3 := by omega
      rcases this with rfl | rfl | rfl | rfl
      · exact ⟨p1, rfl, s1⟩
      · exact ⟨p2, rfl, s2⟩
      · exact ⟨p3, rfl, s3⟩
      · exact ⟨p5, rfl, s5⟩
    have hsw8 := k68.tk hd6 _ _ hsw
    refine o_ixL hl8 (atI_nat hpw) (o_ixL hl8 (atI_nat hpw) ?_)
    obtain ⟨n1, n2, n3⟩ := menus_ok ⟨w, hw⟩ ⟨f, by omega⟩ ⟨m, by omega⟩
    have hlen4 : (menus.getD w []).length = 4 := by
      have : w = 0 ∨ w = 1 ∨ w = 2 ∨ w = 3 := by omega
      rcases this with rfl | rfl | rfl | rfl <;> rfl
    have hne : (menus.getD w []).map V.str ≠ [] := fun e => by
      have := congrArg List.length e
      rw [List.length_map, hlen4] at this; cases this
    refine ⟨pw, pw, _, _, rfl, rfl, hsw8, hsw8, by rw [List.length_map, hlen4]; omega, fun e => absurd e hne, fun _ e => absurd e hne, fun _ _ p9 hp9 => ?_⟩
    generalize hG : upd H8 p9 _ = H9
    obtain ⟨k9, e9⟩ := gen_new hp9 hG
    clear hG
    rw [← List.map_append] at e9
    have e10 : ((f : Int) + (m : Int)) = ((f + m : Nat) : Int) := by omega
    rw [e10]
    refine o_slA (SqT.of e9) fun p10 H10 k10 h10 => ?_
    rw [cutV_str] at h10
    have hcut : (((menus.getD w [] ++ menus.getD w []).drop (HT.sIx (menus.getD w [] ++ menus.getD w []).length 0 (some (f : Int)))).take (HT.sIx (menus.getD w [] ++ menus.getD w []).length (menus.getD w [] ++ menus.getD w []).length (some ((f + m : Nat) : Int)) - HT.sIx (menus.getD w [] ++ menus.getD w []).length 0 (some (f : Int)))) = ((menus.getD w [] ++ menus.getD w []).drop f).take m := by
      rw [HT.sIx_nat, HT.sIx_nat, List.length_append, hlen4]
      rw [Nat.min_eq_left (by omega), Nat.min_eq_left (by omega), Nat.add_sub_cancel_left]
    rw [hcut] at h10
    refine q p10 _ H10 ⟨fun b o e n => k10 _ _ (k9 _ _ (k68.keep _ _ (k06 _ _ e) n)), ?_⟩ h10 (by rw [n1]) n2 fun z hz => nameC_ok (List.all_eq_true.mp n3 z hz)
    obtain ⟨x, y, z, e⟩ := k68.deck
    exact ⟨x, y, z, k10 _ _ (k9 _ _ e)⟩
  · have e : decide ((w : Int) < 4) = false := by rw [decide_eq_false_iff_not]; omega
    rw [e]
    simp only [Bool.false_eq_true, if_false]
    walk_at "rd"
    refine ⟨⟨_, rfl⟩, o_draw k7.deck (by decide) (by decide) fun d H8 h0 h1 k8 => ?_⟩
    walk_at "rd"
    refine ⟨by omega, by omega, ?_⟩
    refine lb_walk walk_range (fun D i H2 => Dk a H7 H2 ∧ ∃ ys : List Str, ys.length = i ∧ H2 D = some (.lst (ys.map V.str)) ∧ H8 D = none ∧ ∀ y ∈ ys, ∃ c, y = ⟨#[c]⟩ ∧ 97 ≤ c ∧ c ≤ 122) ?_ (fun _ _ _ _ _ => trivial) ?_ ?_
    · intro D hD
      exact ⟨k8.new hD, [], rfl, upd_same, hD, by simp⟩
    · rintro D i x H2 H3 hi ⟨k2, ys, hl, h2, hD, hy⟩ ⟨rfl, rfl⟩
      have ha : a ≠ D := (deck_ne k8.deck hD).symm
      walk_at "rd"
      refine ⟨a, .str abc, rfl, k2.deck, .inr ⟨abc, rfl, by decide +kernel, by decide +kernel, fun c H4 hc k4 => ?_⟩⟩
      obtain ⟨c1, c2⟩ := abc_mem hc
      refine ⟨_, k4.keep _ _ h2 ha.symm, ?_, ?_⟩
      · rw [List.length_map, hl]; omega
      · refine ⟨?_, ys ++ [⟨#[c]⟩], by simp [hl], by rw [upd_same]; simp, hD, ?_⟩
        · have k5 := k2.trans k4
          refine ⟨fun b o h nb => ?_, ?_⟩
          · have n : b ≠ D := ne_of_none (k8.keep b o h nb) hD
            rw [upd_ne n]; exact k5.keep b o h nb
          · obtain ⟨g, m, c, e⟩ := k5.deck
            exact ⟨g, m, c, by rw [upd_ne ha]; exact e⟩
        · intro y hy'
          rcases List.mem_append.mp hy' with h | h
          · exact hy y h
          · exact ⟨_, List.mem_singleton.mp h, c1, c2⟩
    · rintro D H2 hD ⟨k2, ys, hl, h2, _, hy⟩
      obtain ⟨tl1, tc⟩ := one_letters hy
      refine ⟨_, D, ys, rfl, rfl, .inl (SqL.of h2), ?_, ?_⟩
      · have e : (("" : Str)).length = 0 := by decide +kernel
        rw [e, one_sum hy]; omega
      generalize hT : Txt.join ("" : Str) ys = tx at tl1 tc
      have hyl : 1 ≤ ys.length ∧ ys.length ≤ 8 := by omega
      have hnt : IsName tx := ⟨by omega, by omega, tc⟩
      walk_at "rd"
      refine ⟨tx, rfl, by omega, ?_⟩
      refine o_draw k2.deck (by omega) (by omega) fun at0 H9 a0 a1 k9 => ?_
      obtain ⟨at_, rfl⟩ : ∃ j : Nat, at0 = (j : Int) := ⟨at0.toNat, by omega⟩
      refine o_draw k9.deck (by decide) (by decide) fun bg H10 b0 b1 k10 => ?_
      obtain ⟨b, rfl⟩ : ∃ j : Nat, bg = (j : Int) := ⟨bg.toNat, by omega⟩
      refine ⟨by show 2 ≤ sizeLine; omega, fun p11 hp11 => ?_⟩
      generalize hG : upd H10 p11 _ = H11
      obtain ⟨k11, e11⟩ := gen_new hp11 hG
      clear hG
      have k711 : Dk a H7 H11 := ⟨fun b o e n => k11 _ _ (k10.keep _ _ (k9.keep _ _ (k2.keep _ _ e n) n) n), by obtain ⟨x, y, z, e⟩ := k10.deck; exact ⟨x, y, z, k11 _ _ e⟩⟩
      refine ⟨p11, _, rfl, SqT.of e11, rfl, _, _, rfl, _, _, rfl, rfl, ?_⟩
      walk_at "rd"
      refine o_draw k711.deck (by decide) (by decide) fun sg H12 s0 s1' k12 => ?_
      obtain ⟨s, rfl⟩ : ∃ j : Nat, sg = (j : Int) := ⟨sg.toNat, by omega⟩
      walk_at "rd"
      have k712 := k711.trans k12
      refine ⟨.inl ⟨by decide, by decide⟩, by omega, by omega, ?_⟩
      have hd12 := k712.deck
      refine lb_walk walk_range (fun D2 i H2 => H12 D2 = none ∧ Kp H12 H2 ∧ H2 D2 = some (.lst ((List.range i).map fun k => V.str ⟨#[97 + (b + (1 + 2 * s) * k) % 26]⟩))) ?_ (fun _ _ _ _ _ => trivial) ?_ ?_
      · intro D2 hD2
        exact ⟨hD2, (show Kp H12 H12 from fun _ _ h => h).new hD2, by rw [upd_same]; rfl⟩
      · rintro D2 i x H13 H14 hi ⟨hD2, k13, h13⟩ ⟨rfl, rfl⟩
        walk_at "rd"
        rw [Int.zero_add]
        refine ⟨.inl ⟨by omega, by omega⟩, by decide, ?_⟩
        have ei : ((b : Int) + (1 + 2 * (s : Int)) * (i : Int)) % 26 = (((b + (1 + 2 * s) * i) % 26 : Nat) : Int) := by
          rw [Int.natCast_emod]; congr 1
        rw [ei]
        have hlt : (b + (1 + 2 * s) * i) % 26 < 26 := Nat.mod_lt _ (by decide)
        refine o_ixS (by decide) (abc_ix (by omega) (by omega)) ⟨_, h13, ?_, ?_⟩
        · rw [List.length_map, List.length_range]; omega
        · refine ⟨hD2, fun c o e => by rw [upd_ne (ne_of_none e hD2)]; exact k13 _ _ e, ?_⟩
          rw [upd_same, List.range_succ, List.map_append]
          simp
          rw [ei, Int.toNat_natCast]
      · rintro D2 H13 hD2 ⟨_, k13, h13⟩
        have hmm : ((m : Int)).toNat = m := by omega
        rw [hmm] at h13
        refine ⟨D2, rfl, ⟨_, SqL.of h13⟩, ?_⟩
        refine lb_walk (n := ((List.range m).map fun k => V.str ⟨#[97 + (b + (1 + 2 * s) * k) % 26]⟩).length) walk_list (fun D3 i H2 => H13 D3 = none ∧ Kp H13 H2 ∧ H2 D3 = some (.lst (((List.range i).map fun k => putL tx at_ (97 + (b + (1 + 2 * s) * k) % 26)).map V.str))) ?_ ?_ ?_ ?_
        · intro D3 hD3
          exact ⟨hD3, (show Kp H13 H13 from fun _ _ h => h).new hD3, by rw [upd_same]; rfl⟩
        · rintro D3 i H14 _ ⟨_, k14, _⟩
          exact SqL.of (k14 _ _ h13)
        · rintro D3 i x H14 H15 hi ⟨hD3, k14, h14⟩ ⟨rfl, hx⟩
          have him : i < m := by simpa using hi
          have hx2 : x = V.str ⟨#[97 + (b + (1 + 2 * s) * i) % 26]⟩ := by
            rw [List.getElem?_map, List.getElem?_range him] at hx
            exact (Option.some.inj hx).symm
          subst hx2
          walk_at "rd"
          have e7 : ((at_ : Int) + 1) = ((at_ + 1 : Nat) : Int) := by omega
          have hl1 : (cutS tx none (some (at_ : Int))).length ≤ 8 := by
            rw [len_tl, tl_cut, HT.sIx_none, List.length_take, List.length_drop, ← len_tl]; omega
          have hl2 : (cutS tx (some ((at_ + 1 : Nat) : Int)) none).length ≤ 8 := by
            rw [len_tl, tl_cut, HT.sIx_none, List.length_take, List.length_drop, ← len_tl]; omega
          have hc1 : ((⟨#[97 + (b + (1 + 2 * s) * i) % 26]⟩ : Str)).length = 1 := rfl
          refine ⟨tx, rfl, by omega, _, _, rfl, rfl, by omega, ?_⟩
          rw [e7]
          have hap : (cutS tx none (some (at_ : Int)) ++ (⟨#[97 + (b + (1 + 2 * s) * i) % 26]⟩ : Str)).length ≤ 9 := by
            rw [len_tl, tl_app, List.length_append, ← len_tl, ← len_tl]; omega
          refine ⟨tx, rfl, by omega, _, _, rfl, rfl, by omega, _, h14, by rw [List.length_map, List.length_map, List.length_range]; omega, hD3, fun c o e => by rw [upd_ne (ne_of_none e hD3)]; exact k14 _ _ e, ?_⟩
          rw [upd_same, List.range_succ, List.map_append, List.map_append]
          rfl
        · rintro D3 H14 hD3 ⟨_, k14, h14⟩
          rw [List.length_map, List.length_range] at h14
          refine ⟨D3, _, rfl, .inl ⟨SqL.of h14, fun p15 hp15 => ?_⟩⟩
          generalize hG : upd H14 p15 _ = H15
          obtain ⟨k15, e15⟩ := gen_new hp15 hG
          clear hG
          have kall : Kp H12 H15 := fun c o e => k15 _ _ (k14 _ _ (k13 _ _ e))
          refine q p15 _ H15 ⟨fun c o e n => kall _ _ (k712.keep _ _ (k7.keep _ _ (k06 _ _ e) n) n), ?_⟩ (SqT.of e15) (by rw [List.length_map, List.length_range]) ?_ ?_
          · obtain ⟨x, y, z, e⟩ := hd12
            exact ⟨x, y, z, kall _ _ e⟩
          · have hs := signs_ok ⟨b, by omega⟩ ⟨s, by omega⟩ ⟨m, by omega⟩
            have := List.Pairwise.map (S := (· ≠ ·)) (fun c => putL tx at_ (97 + c)) (fun c d hcd e => hcd (by have := putL_inj e; omega)) hs
            rw [List.map_map] at this
            exact this
          · intro z hz
            obtain ⟨k, hk, rfl⟩ := List.mem_map.mp hz
            have hlt : (b + (1 + 2 * s) * k) % 26 < 26 := Nat.mod_lt _ (by decide)
            exact putL_name hnt (by omega) ⟨by omega, by omega⟩
end
end Tw
set_option Elab.async false
set_option linter.all false
set_option maxRecDepth 100000
set_option maxHeartbeats 4000000
/-! the laws' mixing of a row -/
namespace Tw
open PySem PySem.Spec PyProof.Rows L2 TL
local macro_rules | `(tactic| walk_at "rd") => `(tactic| try simp only [o_op, o_un, o_var, o_c, o_cb, o_call, o_cons, o_nil, o_tup, o_lst, o_I0, o_I, o_int1, o_intb, o_abs, o_test, o_b, o_not, o_and, o_or, o_andV, o_orV, o_notV, o_ifE, o_isN, o_notN, o_eq, o_ne, o_seq, o_next, o_asg, o_name, o_sub, o_par, o_par3, o_drop, o_ret, o_retN, o_ifS, o_sl, o_noPart, o_part, o_bm, o_bm0, o_m0, o_m1, o_dget, o_dput, o_din, o_dnotin, o_listKeys, e_bl, e_int, e_str, e_some, e_two, e_three, o_for, o_lc, o_iList, o_iTup, o_iRng1, e_int1, e_ref, o_yes, o_wipe0, o_wipe1, o_disp, o_dnew, o_pairs0, o_pairs1, o_lock, o_keysM, o_gtup, o_gcons, o_gnil, o_rU, o_tru, o_revT, o_enumT, o_from, true_and, if_pos, List.getElem?_cons_zero, List.getElem?_cons_succ, List.set_cons_zero, List.set_cons_succ, List.append_nil])
def sp_l_mixed (K : PySem.W.Frag) : Sp := fun vs H Q _ => ∃ (a s : Addr) (xs : List V), vs = [.ref a, .ref s] ∧ DeckAt H a ∧ (SqL K H s xs ∨ SqT K H s xs) ∧ xs.length ≤ 1000 ∧ ∀ (p : Addr) (ys : List V) (H' : Hp), Dk a H H' → SqT K H' p ys → ys.Perm xs → Q (.ref p) H'
def t_l_mixed_b1 (K : PySem.W.Frag) : TS :=
  (tDrop (tBM K "list" rAppend (tVar 3) (tCons (tBM K "list" rPopAt (tVar 2) (tCons (tCall sp_l_draw [] E0 (tCons (tVar 0) (tCons (tCB (rLenSeq K) (tCons (tVar 2) tNil)) tNil))) tNil)) tNil)))
def t_l_mixed (K : PySem.W.Frag) : TS :=
  (tSeq (tPar 2 3 (tCons (tCB (rListOf K) (tCons (tVar 1) tNil)) (tCons (tLst tNil) tNil)))
  (tSeq (tWhile (tTest (tOp (rEqE K true) (tVar 2) (tLst tNil)))
  (t_l_mixed_b1 K))
  (tRet (tCB (rTupleOf K) (tCons (tVar 3) tNil)))))
section
variable {K : PySem.W.Frag}
theorem len_l_mixed (vs : List V) (H : Hp) (Q : VK) (E : XK) (h : sp_l_mixed K vs H Q E) : vs.length = 2 := by
  obtain ⟨_, _, _, rfl, _⟩ := h; rfl
theorem erase_perm {α : Type} {y : α} : ∀ {xs : List α} {k : Nat}, xs[k]? = some y → (y :: xs.eraseIdx k).Perm xs
  | [], k, h => by simp at h
  | x :: xs, 0, h => by cases h; exact List.Perm.refl _
  | x :: xs, k + 1, h => by
    have := erase_perm (xs := xs) (k := k) (by simpa using h)
    show (y :: x :: xs.eraseIdx k).Perm (x :: xs)
    exact (List.Perm.swap x y _).trans (this.cons x)
def MixInv (K : PySem.W.Frag) (H : Hp) (a s ln fn_ : Addr) (xs : List V) (m : Nat) (σ : L2.St) (H4 : Hp) : Prop :=
  ∃ ls fs, Dk a H H4 ∧ H4 ln = some (.lst ls) ∧ H4 fn_ = some (.lst fs) ∧ (fs ++ ls).Perm xs ∧ m = ls.length ∧ σ = [some (.ref a), some (.ref s), some (.ref ln), some (.ref fn_)]
theorem pure_l_mixed (vs : List V) (H : Hp) (Q : VK) (E : XK) (h : sp_l_mixed K vs H Q E) : t_l_mixed K { nx := fun _ H' => Q .non H', rt := Q } (startN 4 vs) H := by
  obtain ⟨a, s, xs, rfl, hd, hs, hlen, q⟩ := h
  show t_l_mixed K _ [some (.ref a), some (.ref s), none, none] H
  unfold t_l_mixed
  have hz := sizeLine_eq
  walk_at "rd"
  refine ⟨s, xs, rfl, hs, fun ln hln => ?_⟩
  have lna : ln ≠ a := deck_ne hd hln
  generalize hG : upd H ln _ = H1
  obtain ⟨k1, e1⟩ := gen_new hln hG
  clear hG
  refine ⟨by show 0 ≤ sizeLine; omega, fun fn_ hfn => ?_⟩
  have hd1 : DeckAt H1 a := by obtain ⟨x, y, z, e⟩ := hd; exact ⟨x, y, z, k1 _ _ e⟩
  have fna : fn_ ≠ a := deck_ne hd1 hfn
  have lf : ln ≠ fn_ := ne_of_none e1 hfn
  have fnH : H fn_ = none := Kp.free k1 hfn
  generalize hG : upd H1 fn_ _ = H2
  obtain ⟨k2, e2⟩ := gen_new hfn hG
  clear hG
  have hd2 : DeckAt H2 a := by obtain ⟨x, y, z, e⟩ := hd1; exact ⟨x, y, z, k2 _ _ e⟩
  refine ⟨MixInv K H a s ln fn_ xs, ⟨_, xs, [], ⟨fun b o e _ => k2 _ _ (k1 _ _ e), hd2⟩, k2 _ _ e1, e2, List.Perm.refl _, rfl, rfl⟩, ?_⟩
  rintro m σ H4 ⟨ls, fs, k4, hl4, hf4, hp, rfl, rfl⟩
  walk_at "rd"
  refine ⟨by show 0 ≤ sizeLine; omega, fun p5 hp5 => ?_⟩
  generalize hG : upd H4 p5 _ = H5
  obtain ⟨k5, e5⟩ := gen_new hp5 hG
  clear hG
  have hl5 := k5 _ _ hl4
  have hf5 := k5 _ _ hf4
  have hd5 : DeckAt H5 a := by obtain ⟨x, y, z, e⟩ := k4.deck; exact ⟨x, y, z, k5 _ _ e⟩
  have k05 : Dk a H H5 := ⟨fun b o e n => k5 _ _ (k4.keep _ _ e n), hd5⟩
  refine ⟨ln, p5, ls, rfl, rfl, .inl ⟨SqL.of hl5, SqL.of e5⟩, ?_⟩
  have hpl := hp.length_eq
  rw [List.length_append] at hpl
  cases ls with
  | nil =>
    refine ⟨_, rfl, ?_⟩
    simp only [List.isEmpty_nil, bne_self_eq_false, Bool.false_eq_true, if_false]
    walk_at "rd"
    refine ⟨fn_, fs, rfl, .inl ⟨SqL.of hf5, fun p hp6 => ?_⟩⟩
    generalize hG : upd H5 p _ = H6
    obtain ⟨k6, e6⟩ := gen_new hp6 hG
    clear hG
    rw [List.append_nil] at hp
    obtain ⟨x, y, z, e⟩ := hd5
    exact q p fs H6 ⟨fun b o e n => k6 _ _ (k05.keep _ _ e n), x, y, z, k6 _ _ e⟩ (SqT.of e6) hp
  | cons v ls =>
    refine ⟨_, rfl, ?_⟩
    simp only [List.isEmpty_cons, Bool.true_bne, Bool.not_false, if_true]
    refine ⟨fun σ' H' => ∃ m', m' < (v :: ls).length ∧ MixInv K H a s ln fn_ xs m' σ' H', fun σ' H' w => w, ?_⟩
    unfold t_l_mixed_b1
    walk_at "rd"
    refine ⟨.inl ⟨rfl, _, SqL.of hf5⟩, .inl ⟨rfl, _, SqL.of hl5⟩, ln, _, rfl, .inl (SqL.of hl5), ?_⟩
    walk_at "rd"
    refine o_draw hd5 (by simp only [List.length_cons]; omega) (by simp only [List.length_cons] at hpl ⊢; omega) fun c H6 c0 c1 k6 => ?_
    obtain ⟨j, rfl⟩ : ∃ j : Nat, c = (j : Int) := ⟨c.toNat, by omega⟩
    have hj : j < (v :: ls).length := by omega
    have hl6 := k6.keep _ _ hl5 lna
    have hf6 := k6.keep _ _ hf5 fna
    have hy : (v :: ls)[j]? = some ((v :: ls)[j]) := List.getElem?_eq_getElem hj
    have hix : seqIndex? (j : Int) (v :: ls).length = some j := by
      unfold seqIndex?
      simp only [List.length_cons] at hj ⊢
      first | (rw [if_neg (by omega)]; simp; omega) | (simp; omega)
    refine ⟨ln, _, _, j, _, rfl, rfl, hl6, by omega, by simp only [List.length_cons] at hpl hj; omega, hix, hy, ?_⟩
    generalize hG : upd H6 ln _ = H7
    obtain ⟨k7, e7⟩ := gen_chg hG
    clear hG
    have hf7 := k7 _ _ hf6 lf.symm
    refine ⟨fn_, fs, _, rfl, rfl, hf7, by simp only [List.length_cons] at hpl; omega, ?_⟩
    generalize hG : upd H7 fn_ _ = H8
    obtain ⟨k8, e8⟩ := gen_chg hG
    clear hG
    have hl8 := k8 _ _ e7 lf
    refine ⟨_, ?_, (v :: ls).eraseIdx j, fs ++ [(v :: ls)[j]], ⟨fun b o e n => k8 _ _ (k7 _ _ (k6.keep _ _ (k05.keep _ _ e n) n) (ne_of_none e hln)) (ne_of_none e fnH), ?_⟩, hl8, e8, ?_, rfl, rfl⟩
    · rw [List.length_eraseIdx_of_lt hj]; simp only [List.length_cons] at hj ⊢; omega
    · obtain ⟨x, y, z, e⟩ := k6.deck
      exact ⟨x, y, z, k8 _ _ (k7 _ _ e lna.symm) fna.symm⟩
    · rw [List.append_assoc]
      exact (List.Perm.append_left fs (erase_perm hy)).trans hp
end
end Tw
set_option Elab.async false
set_option linter.all false
set_option maxRecDepth 100000
set_option maxHeartbeats 4000000
/-! The plain layer: the promises that stood before it, told plainly. -/
namespace Tw
open PySem PySem.Spec PyProof.Rows L2 TL
/-! ### woods -/
def Fo.pvs : Fo → List PV
  | .nil => []
  | .cons n ks r => .tup [.str n, .tup (Fo.pvs ks)] :: Fo.pvs r
/-- a wood as a plain value -/
abbrev Fo.pv (f : Fo) : PV := .tup f.pvs
abbrev sT (zs : List Str) : PV := .tup (zs.map .str)
abbrev sL (zs : List Str) : PV := .lst (zs.map .str)
section
variable {K : PySem.W.Frag} {dk : Option Addr} {F F' : Addr → Prop} {H H' : Hp} {a : Addr}
theorem rep_Rp : ∀ {f : Fo} {vs : List V}, RepL K dk F H vs f.pvs → Rp K H vs f
  | .nil, vs, r => by cases r; exact .nil
  | .cons n ks rest, vs, r => by
    cases r with
    | cons a b =>
      cases a with
      | tup s l =>
        cases l with
        | cons x y =>
          cases x
          cases y with
          | cons k z =>
            cases z
            cases k with
            | tup s2 l2 => exact .cons s s2 (rep_Rp l2) (rep_Rp b)
theorem Rp_rep {vs : List V} {f : Fo} (h : Rp K H vs f) : RepL K dk F H vs f.pvs := by
  induction h with
  | nil => exact .nil
  | cons a b _ _ ih1 ih2 => exact .cons (.tup a (.cons (.str _) (.cons (.tup b ih1) .nil))) ih2
theorem rep_wood {v : V} {f : Fo} (r : Rep K dk F H v f.pv) : ∃ a, v = .ref a ∧ WoodAt K H a f := by
  cases r with
  | tup s l => exact ⟨_, rfl, _, s, rep_Rp l⟩
theorem wood_rep {f : Fo} (h : WoodAt K H a f) : Rep K dk F H (.ref a) f.pv := by
  obtain ⟨vs, s, r⟩ := h
  exact .tup s (Rp_rep r)
theorem rep_sT {v : V} {zs : List Str} (r : Rep K dk F H v (sT zs)) : ∃ a, v = .ref a ∧ SqT K H a (zs.map V.str) := by
  cases r with
  | tup s l => have := l.strs; subst this; exact ⟨_, rfl, s⟩
theorem sT_rep {zs : List Str} (h : SqT K H a (zs.map V.str)) : Rep K dk F H (.ref a) (sT zs) := .tup h (RepL.ofStrs zs)
theorem rep_sL {v : V} {zs : List Str} (r : Rep K dk F H v (sL zs)) : ∃ a, v = .ref a ∧ F a ∧ H a = some (.lst (zs.map V.str)) := by
  cases r with
  | lst f s l => have := l.strs; subst this; exact ⟨_, rfl, f, s⟩
/-! ### the heap behind a call -/
theorem St0.kp (s : St0 K dk F H F H) (k : Kp H H') : St0 K dk F H F H' :=
  ⟨fun b o h _ => k b o h, fun _ h => .inl h, fun b h => by obtain ⟨o, e⟩ := s.fall b h; exact ⟨o, k b o e⟩, fun _ h => h, s.fdk, fun d e => by obtain ⟨x, y, z, q⟩ := s.deck d e; exact ⟨x, y, z, k _ _ q⟩, s.deck⟩
theorem St0.dkk (s : St0 K (some a) F H F H) (k : Dk a H H') : St0 K (some a) F H F H' :=
  ⟨fun b o h n => k.keep b o h fun e => n (by rw [e]), fun _ h => .inl h, fun b h => by obtain ⟨o, e⟩ := s.fall b h; exact ⟨o, k.keep b o e fun z => s.fdk b h (by rw [z])⟩, fun _ h => h, s.fdk, fun d e => by cases e; exact k.deck, s.deck⟩
/-- with a new list of the callee's -/
theorem St0.plus {b : Addr} {o : HO} (s : St0 K dk F H F H') (n : H b = none) (e : H' b = some o) (nd : dk ≠ some b) : St0 K dk F H (fun c => F c ∨ c = b) H' :=
  ⟨s.base, fun c h => h.elim (fun h => s.fnew c h) fun h => .inr (by rw [h]; exact n), fun c h => h.elim (s.fall c) fun h => ⟨o, by rw [h]; exact e⟩, fun c h => .inl (s.f0 c h), fun c h => h.elim (s.fdk c) fun h => by rw [h]; exact nd, s.deck, s.deck0⟩
theorem St0.notDeck (s : St0 K dk F H F H) {b : Addr} (n : H b = none) : dk ≠ some b := fun e => by
  obtain ⟨x, y, z, q⟩ := s.deck b e
  rw [n] at q; cases q
theorem St0.listNe (s : St0 K dk F H F H) {b : Addr} (h : F b) (e : dk = some a) : b ≠ a := fun z => s.fdk b h (by rw [e, z])
end
section
variable (K : PySem.W.Frag)
/-! ### the law's draws -/
def psp_l_draw : PSp := fun xs _ post => ∃ n : Int, xs = [.deck, .int n] ∧ 0 < n ∧ n < 1073741824 ∧ ∀ d : Int, 0 ≤ d → d < n → post (.int d)
theorem hs_l_draw : SpOk K sp_l_draw psp_l_draw := by
  rintro dk F H vs xs perr post Q E s r ⟨n, rfl, h1, h2, h3⟩ q _
  cases r with
  | cons a b => cases b with
    | cons c d =>
      cases a with
      | deck e =>
        cases c; cases d; subst e
        exact ⟨_, n, rfl, s.deck _ rfl, h1, h2, fun d H' d0 d1 k => q _ H' F _ (s.dkk k) (.int d) (h3 d d0 d1)⟩
def psp_l_name : PSp := fun xs _ post => xs = [.deck] ∧ ∀ z : Str, IsName z → post (.str z)
theorem hs_l_name : SpOk K sp_l_name psp_l_name := by
  rintro dk F H vs xs perr post Q E s r ⟨rfl, h3⟩ q _
  cases r with
  | cons a b =>
    cases b
    cases a with
    | deck e =>
      subst e
      exact ⟨_, rfl, s.deck _ rfl, fun z H' hz k => q _ H' F _ (s.dkk k) (.str z) (h3 z hz)⟩
def psp_l_names : PSp := fun xs _ post => ∃ n : Int, xs = [.deck, .int n] ∧ 0 ≤ n ∧ n ≤ 300 ∧ ∀ zs : List Str, (zs.length : Int) = n → zs.Nodup → (∀ z ∈ zs, IsName z) → post (sL zs)
theorem hs_l_names : SpOk K sp_l_names psp_l_names := by
  rintro dk F H vs xs perr post Q E s r ⟨n, rfl, h1, h2, h3⟩ q _
  cases r with
  | cons a b => cases b with
    | cons c d =>
      cases a with
      | deck e =>
        cases c; cases d; subst e
        exact ⟨_, n, rfl, s.deck _ rfl, h1, h2, fun p zs H' hp k hz hl nd hn => q _ H' _ _ ((s.dkk k).plus hp hz (s.notDeck hp)) (.lst (.inr rfl) hz (RepL.ofStrs zs)) (h3 zs hl nd hn)⟩
def psp_l_some_wood : PSp := fun xs _ post => xs = [.deck] ∧ ∀ f : Fo, Good f → post f.pv
theorem hs_l_some_wood : SpOk K (sp_l_some_wood K) psp_l_some_wood := by
  rintro dk F H vs xs perr post Q E s r ⟨rfl, h3⟩ q _
  cases r with
  | cons a b =>
    cases b
    cases a with
    | deck e =>
      subst e
      exact ⟨_, rfl, s.deck _ rfl, fun wp f H' k w g => q _ H' F _ (s.dkk k) (wood_rep w) (h3 f g)⟩
def psp_l_wood : PSp := fun xs _ post => ∃ zs : List Str, xs = [.deck, sL zs] ∧ zs.Nodup ∧ (∀ z ∈ zs, IsName z) ∧ zs.length ≤ 100 ∧ ∀ f : Fo, f.nm.Perm zs → post f.pv
theorem hs_l_wood : SpOk K (sp_l_wood K) psp_l_wood := by
  rintro dk F H vs xs perr post Q E s r ⟨zs, rfl, nd, hn, hl, h3⟩ q _
  cases r with
  | cons a b => cases b with
    | cons c d =>
      cases a with
      | deck e =>
        cases d
        obtain ⟨l, rfl, fl, hl2⟩ := rep_sL c
        have ne := s.listNe fl e
        subst e
        exact ⟨_, l, zs, rfl, s.deck _ rfl, SqL.of hl2, ne, nd, hn, hl, fun p H' f k w g => q _ H' F _ (s.dkk k) (wood_rep w) (h3 f g)⟩
def psp_l_tall_wood : PSp := fun xs _ post => ∃ (zs : List Str) (tall : Int), xs = [.deck, sL zs, .int tall] ∧ zs.Nodup ∧ (∀ z ∈ zs, IsName z) ∧ zs.length ≤ 300 ∧ 1 ≤ tall ∧ tall ≤ 120 ∧ ∀ f : Fo, f.nm.Perm zs → (f.dp : Int) ≤ tall → ((zs.length : Int) ≤ tall → zs.length ≤ f.dp) → post f.pv
theorem hs_l_tall_wood : SpOk K (sp_l_tall_wood K) psp_l_tall_wood := by
  rintro dk F H vs xs perr post Q E s r ⟨zs, tall, rfl, nd, hn, hl, t1, t2, h3⟩ q _
  cases r with
  | cons a b => cases b with
    | cons c d => cases d with
      | cons t u =>
        cases a with
        | deck e =>
          cases t; cases u
          obtain ⟨l, rfl, fl, hl2⟩ := rep_sL c
          have ne := s.listNe fl e
          subst e
          exact ⟨_, l, zs, tall, rfl, s.deck _ rfl, SqL.of hl2, ne, nd, hn, hl, t1, t2, fun p H' f k w g dp dq => q _ H' F _ (s.dkk k) (wood_rep w) (h3 f g dp dq)⟩
/-- the row of a wood, as the law reckons it -/
def psp_l_row : PSp := fun xs _ post => ∃ f : Fo, xs = [f.pv] ∧ f.dp ≤ 120 ∧ f.nm.length ≤ 1000 ∧ (∀ z ∈ f.nm, z.length ≤ 100) ∧ post (sT f.row)
theorem hs_l_row : SpOk K (spR K 121) psp_l_row := by
  rintro dk F H vs xs perr post Q E s r ⟨f, rfl, h1, h2, h3, h4⟩ q _
  cases r with
  | cons a b =>
    cases b
    obtain ⟨p, rfl, w⟩ := rep_wood a
    exact ⟨p, f, rfl, w, h1, h2, h3, fun p' H' k hs => q _ H' F _ (s.kp k) (sT_rep hs) h4⟩
def psp_l_from_row : PSp := fun xs _ post => ∃ f : Fo, xs = [sT f.row] ∧ NameOk f ∧ post f.pv
theorem hs_l_from_row : SpOk K (sp_l_from_row K) psp_l_from_row := by
  rintro dk F H vs xs perr post Q E s r ⟨f, rfl, h1, h4⟩ q _
  cases r with
  | cons a b =>
    cases b
    obtain ⟨p, rfl, w⟩ := rep_sT a
    exact ⟨p, f, rfl, w, h1, fun p' H' k hs => q _ H' F _ (s.kp k) (wood_rep hs) h4⟩
def psp_l_chosen : PSp := fun xs _ post => ∃ zs : List Str, xs = [.deck, sL zs] ∧ zs.Nodup ∧ zs.length ≤ 1000 ∧ ∀ cs : List Str, cs.Nodup → (∀ z ∈ cs, z ∈ zs) → post (sT cs)
theorem hs_l_chosen : SpOk K (sp_l_chosen K) psp_l_chosen := by
  rintro dk F H vs xs perr post Q E s r ⟨zs, rfl, nd, hl, h3⟩ q _
  cases r with
  | cons a b => cases b with
    | cons c d =>
      cases a with
      | deck e =>
        cases d
        obtain ⟨l, rfl, fl, hl2⟩ := rep_sL c
        have ne := s.listNe fl e
        subst e
        exact ⟨_, l, zs, rfl, s.deck _ rfl, hl2, ne, nd, hl, fun p cs H' k hs nc hc => q _ H' F _ (s.dkk k) (sT_rep hs) (h3 cs nc hc)⟩
/-! ### the program's woods -/
def psp_row_of : PSp := fun xs _ post => ∃ f : Fo, xs = [f.pv] ∧ f.nm.length ≤ 1000 ∧ (∀ z ∈ f.nm, z.length ≤ 100) ∧ post (sT f.row)
theorem hs_row_of : SpOk K (sp_row_of K) psp_row_of := by
  rintro dk F H vs xs perr post Q E s r ⟨f, rfl, h2, h3, h4⟩ q _
  cases r with
  | cons a b =>
    cases b
    obtain ⟨p, rfl, w⟩ := rep_wood a
    exact ⟨p, f, rfl, w, h2, h3, fun p' H' k hs => q _ H' F _ (s.kp k) (sT_rep hs) h4⟩
def psp_unchecked_wood : PSp := fun xs _ post => ∃ f : Fo, (xs = [sT f.row] ∨ xs = [sL f.row]) ∧ NameOk f ∧ post f.pv
theorem hs_unchecked_wood : SpOk K (sp_unchecked_wood K) psp_unchecked_wood := by
  rintro dk F H vs xs perr post Q E s r ⟨f, hx, h1, h4⟩ q _
  rcases hx with rfl | rfl
  · cases r with
    | cons a b =>
      cases b
      obtain ⟨p, rfl, w⟩ := rep_sT a
      exact ⟨p, f, rfl, .inr w, h1, fun p' H' k hs => q _ H' F _ (s.kp k) (wood_rep hs) h4⟩
  · cases r with
    | cons a b =>
      cases b
      obtain ⟨p, rfl, _, w⟩ := rep_sL a
      exact ⟨p, f, rfl, .inl (SqL.of w), h1, fun p' H' k hs => q _ H' F _ (s.kp k) (wood_rep hs) h4⟩
def psp_names_of : PSp := fun xs _ post => ∃ f : Fo, xs = [f.pv] ∧ NameOk f ∧ post (sT f.nm)
theorem hs_names_of : SpOk K (sp_names_of K) psp_names_of := by
  rintro dk F H vs xs perr post Q E s r ⟨f, rfl, h1, h4⟩ q _
  cases r with
  | cons a b =>
    cases b
    obtain ⟨p, rfl, w⟩ := rep_wood a
    exact ⟨p, f, rfl, w, h1, fun p' H' k hs => q _ H' F _ (s.kp k) (sT_rep hs) h4⟩
/-- the gaps as a plain value -/
abbrev gpv (gs : List (List Str)) : PV := .tup (gs.map fun g => sT g)
theorem rep_Gs {K : PySem.W.Frag} {dk : Option Addr} {F : Addr → Prop} {H : Hp} {vs : List V} {gs : List (List Str)} (h : Gs K H vs gs) : RepL K dk F H vs (gs.map fun g => sT g) := by
  induction h with
  | nil => exact .nil
  | cons a _ ih => exact .cons (sT_rep a) ih
def psp_skeleton_of : PSp := fun xs _ post => ∃ (f : Fo) (zs : List Str), xs = [f.pv, sT zs] ∧ NameOk f ∧ zs.Nodup ∧ (∀ z ∈ zs, z ∈ f.nm) ∧ post (f.skel zs).pv
theorem hs_skeleton_of : SpOk K (sp_skeleton_of K) psp_skeleton_of := by
  rintro dk F H vs xs perr post Q E s r ⟨f, zs, rfl, h1, nd, hz, h4⟩ q _
  cases r with
  | cons a b => cases b with
    | cons c d =>
      cases d
      obtain ⟨p, rfl, w⟩ := rep_wood a
      obtain ⟨t, rfl, ht⟩ := rep_sT c
      exact ⟨p, t, f, zs, rfl, w, h1, ht, nd, hz, fun p' H' k hs => q _ H' F _ (s.kp k) (wood_rep hs) h4⟩
def psp_gaps_of : PSp := fun xs _ post => ∃ (f : Fo) (zs : List Str), xs = [f.pv, sT zs] ∧ NameOk f ∧ zs.Nodup ∧ (∀ z ∈ zs, z ∈ f.nm) ∧ post (gpv (gapL zs f.erow []))
theorem hs_gaps_of : SpOk K (sp_gaps_of K) psp_gaps_of := by
  rintro dk F H vs xs perr post Q E s r ⟨f, zs, rfl, h1, nd, hz, h4⟩ q _
  cases r with
  | cons a b => cases b with
    | cons c d =>
      cases d
      obtain ⟨p, rfl, w⟩ := rep_wood a
      obtain ⟨t, rfl, ht⟩ := rep_sT c
      exact ⟨p, t, f, zs, rfl, w, h1, ht, nd, hz, fun p' H' k hs => by
        obtain ⟨ws, s1, g1⟩ := hs
        exact q _ H' F _ (s.kp k) (.tup s1 (rep_Gs g1)) h4⟩
end
/-! ### the law -/
/-- deck = _law_deck(script), and the rest -/
def lawT (K : PySem.W.Frag) (i : Nat) (X : SS K) : TS := tSeq (tAsg (tCall (sp_l_deck K) [] E0 (tCons (tVar 0) tNil)) (gName i)) (X.rd fun _ => E0)
theorem law_run {K : PySem.W.Frag} {i n : Nat} {X : SS K} (hi : i < n) (h0 : i ≠ 0) (h : X.wp (fun _ _ => False) { nx := fun _ => False, rt := fun x => x = .bl true } ((List.replicate n .no).set i (.val .deck))) (vs : List V) (H : Hp) (Q : VK) (E : XK) (hs : sp_law K vs H Q E) :
    lawT K i X { nx := fun _ H' => Q .non H', rt := Q } (startN n vs) H := by
  obtain ⟨a, ns, rfl, _, hs, q⟩ := hs
  unfold lawT
  rw [o_seq, o_asg, o_call]
  refine ⟨_, rfl, a, ns, rfl, hs, fun d H1 k1 hd hn => ?_⟩
  have st : St0 K (some d) (fun b => b ≠ d ∧ ∃ o, H b = some o) H1 (fun b => b ≠ d ∧ ∃ o, H b = some o) H1 := by
    refine St0.refl (fun b hb => ?_) (fun b hb e => hb.1 (Option.some.inj e).symm) (fun d' e => by cases e; exact hd)
    obtain ⟨o, e⟩ := hb.2
    exact ⟨o, k1 _ _ e⟩
  have I : PInv K (some d) (fun b => b ≠ d ∧ ∃ o, H b = some o) H1 (fun b => b ≠ d ∧ ∃ o, H b = some o) (startN n [.ref a]) H1 (List.replicate n .no) := by
    have no : ∀ j b, ¬ OwnAt (startN n [.ref a]) (List.replicate n .no) j b := by
      rintro j b ⟨s, hs, hw, _⟩
      have := List.mem_of_getElem? hs
      rw [List.mem_replicate] at this
      rw [this.2] at hw; cases hw
    refine ⟨st, ?_, fun j s o hs ho => ?_, fun j k b h _ => (no j b h).elim, fun j b h => (no j b h).elim⟩
    · simp only [startN, List.length_append, List.length_map, List.length_replicate, List.length_cons, List.length_nil]; omega
    · have := List.mem_of_getElem? hs
      rw [List.mem_replicate] at this
      rw [this.2]; exact .no _
  exact X.ok (PE := fun _ _ => False) (PD := { nx := fun _ => False, rt := fun x => x = .bl true }) (I.setV (i := i) (v := .ref d) (x := .deck) (.deck rfl)) (fun _ _ _ _ _ _ _ _ _ _ _ _ z => z.elim)
    ⟨fun _ _ _ _ _ _ z => z.elim, fun F' H' v x _ r e => by subst e; cases r; exact q H', fun _ _ _ _ _ _ z => z.elim, fun _ _ _ _ _ _ z => z.elim⟩ h
end Tw
set_option Elab.async false
set_option linter.all false
set_option maxRecDepth 100000
/-! The plain layer: each wp, opened (printed by wip/tools/mkwp.py). -/
namespace Tw
open PySem PySem.Spec PyProof.Rows L2
theorem w_SE_var {K : PySem.W.Frag} {i : Nat} {u0 : PEK} {ρ : Env} {P : PV → Env → Prop} : (SE.var i : SE K).wp u0 ρ P = (vwp i ρ P) := rfl
theorem w_SE_non {K : PySem.W.Frag} {u0 : PEK} {ρ : Env} {P : PV → Env → Prop} : (SE.non : SE K).wp u0 ρ P = (P .non ρ) := rfl
theorem w_SE_bl {K : PySem.W.Frag} {b : Bool} {u0 : PEK} {ρ : Env} {P : PV → Env → Prop} : (SE.bl b : SE K).wp u0 ρ P = (P (.bl b) ρ) := rfl
theorem w_SE_int {K : PySem.W.Frag} {i : Int} {u0 : PEK} {ρ : Env} {P : PV → Env → Prop} : (SE.int i : SE K).wp u0 ρ P = (P (.int i) ρ) := rfl
theorem w_SE_str {K : PySem.W.Frag} {x : Str} {u0 : PEK} {ρ : Env} {P : PV → Env → Prop} : (SE.str x : SE K).wp u0 ρ P = (P (.str x) ρ) := rfl
theorem w_SE_op {K : PySem.W.Frag} {o : SO K} {a b : SE K} {PE : PEK} {ρ : Env} {P : PV → Env → Prop} : (SE.op o a b : SE K).wp PE ρ P = (a.wp PE ρ fun x ρ1 => b.wp PE ρ1 fun y ρ2 => o.wp x y fun z => P z ρ2) := rfl
theorem w_SE_un {K : PySem.W.Frag} {o : SU K} {a : SE K} {PE : PEK} {ρ : Env} {P : PV → Env → Prop} : (SE.un o a : SE K).wp PE ρ P = (a.wp PE ρ fun x ρ1 => o.wp x fun z => P z ρ1) := rfl
theorem w_SE_cb {K : PySem.W.Frag} {o : SB K} {a : SA K} {PE : PEK} {ρ : Env} {P : PV → Env → Prop} : (SE.cb o a : SE K).wp PE ρ P = (a.wp PE ρ fun xs ρ1 => o.wp xs fun z => P z ρ1) := rfl
theorem w_SE_tup {K : PySem.W.Frag} {a : SA K} {PE : PEK} {ρ : Env} {P : PV → Env → Prop} : (SE.tup a : SE K).wp PE ρ P = (a.wp PE ρ fun xs ρ1 => xs.length ≤ sizeLine ∧ P (.tup xs) ρ1) := rfl
theorem w_SE_lst {K : PySem.W.Frag} {a : SA K} {PE : PEK} {ρ : Env} {P : PV → Env → Prop} : (SE.lst a : SE K).wp PE ρ P = (a.wp PE ρ fun xs ρ1 => xs.length ≤ sizeLine ∧ P (.lst xs) ρ1) := rfl
theorem w_SE_ifE {K : PySem.W.Frag} {c : ST K} {a b : SE K} {PE : PEK} {ρ : Env} {P : PV → Env → Prop} : (SE.ifE c a b : SE K).wp PE ρ P = (c.wp PE ρ fun k ρ1 => if k = true then a.wp PE ρ1 P else b.wp PE ρ1 P) := rfl
theorem w_SE_andV {K : PySem.W.Frag} {a b : SE K} {PE : PEK} {ρ : Env} {P : PV → Env → Prop} : (SE.andV a b : SE K).wp PE ρ P = (a.wp PE ρ fun x ρ1 => ∃ c, x = .bl c ∧ if c = true then b.wp PE ρ1 P else P (.bl false) ρ1) := rfl
theorem w_SE_orV {K : PySem.W.Frag} {a b : SE K} {PE : PEK} {ρ : Env} {P : PV → Env → Prop} : (SE.orV a b : SE K).wp PE ρ P = (a.wp PE ρ fun x ρ1 => ∃ c, x = .bl c ∧ if c = true then P (.bl true) ρ1 else b.wp PE ρ1 P) := rfl
theorem w_SE_notV {K : PySem.W.Frag} {a : SE K} {PE : PEK} {ρ : Env} {P : PV → Env → Prop} : (SE.notV a : SE K).wp PE ρ P = (a.wp PE ρ fun x ρ1 => ∃ c, x = .bl c ∧ P (.bl (!c)) ρ1) := rfl
theorem w_SE_isN {K : PySem.W.Frag} {a : SE K} {PE : PEK} {ρ : Env} {P : PV → Env → Prop} : (SE.isN a : SE K).wp PE ρ P = (a.wp PE ρ fun x ρ1 => P (.bl x.isN) ρ1) := rfl
theorem w_SE_notN {K : PySem.W.Frag} {a : SE K} {PE : PEK} {ρ : Env} {P : PV → Env → Prop} : (SE.notN a : SE K).wp PE ρ P = (a.wp PE ρ fun x ρ1 => P (.bl (!x.isN)) ρ1) := rfl
theorem w_SA_nil {K : PySem.W.Frag} {u0 : PEK} {ρ : Env} {P : List PV → Env → Prop} : (SA.nil : SA K).wp u0 ρ P = (P [] ρ) := rfl
theorem w_SA_cons {K : PySem.W.Frag} {a : SE K} {t : SA K} {PE : PEK} {ρ : Env} {P : List PV → Env → Prop} : (SA.cons a t : SA K).wp PE ρ P = (a.wp PE ρ fun x ρ1 => t.wp PE ρ1 fun xs ρ2 => P (x :: xs) ρ2) := rfl
theorem w_ST_test {K : PySem.W.Frag} {a : SE K} {PE : PEK} {ρ : Env} {P : Bool → Env → Prop} : (ST.test a : ST K).wp PE ρ P = (a.wp PE ρ fun x ρ1 => ∃ k, x = .bl k ∧ P k ρ1) := rfl
theorem w_ST_b {K : PySem.W.Frag} {a : SE K} {PE : PEK} {ρ : Env} {P : Bool → Env → Prop} : (ST.b a : ST K).wp PE ρ P = (a.wp PE ρ fun x ρ1 => ∃ k, x = .bl k ∧ P k ρ1) := rfl
theorem w_ST_not {K : PySem.W.Frag} {t : ST K} {PE : PEK} {ρ : Env} {P : Bool → Env → Prop} : (ST.not t : ST K).wp PE ρ P = (t.wp PE ρ fun k ρ1 => P (!k) ρ1) := rfl
theorem w_ST_and {K : PySem.W.Frag} {t u : ST K} {PE : PEK} {ρ : Env} {P : Bool → Env → Prop} : (ST.and t u : ST K).wp PE ρ P = (t.wp PE ρ fun k ρ1 => if k = true then u.wp PE ρ1 P else P false ρ1) := rfl
theorem w_ST_or {K : PySem.W.Frag} {t u : ST K} {PE : PEK} {ρ : Env} {P : Bool → Env → Prop} : (ST.or t u : ST K).wp PE ρ P = (t.wp PE ρ fun k ρ1 => if k = true then P true ρ1 else u.wp PE ρ1 P) := rfl
theorem w_ST_yes {K : PySem.W.Frag} {u0 : PEK} {ρ : Env} {P : Bool → Env → Prop} : (ST.yes : ST K).wp u0 ρ P = (P true ρ) := rfl
theorem w_ST_tru {K : PySem.W.Frag} {a : SE K} {PE : PEK} {ρ : Env} {P : Bool → Env → Prop} : (ST.tru a : ST K).wp PE ρ P = (a.wp PE ρ fun x ρ1 => x.tru fun k => P k ρ1) := rfl
theorem w_SG_name {K : PySem.W.Frag} {i : Nat} {x : PV} {ρ : Env} {P : Env → Prop} : (SG.name i : SG K).wp x ρ P = (P (ρ.set i (.val x))) := rfl
theorem w_SS_next {K : PySem.W.Frag} {u0 : PEK} {PD : PEnds} {ρ : Env} : (SS.next : SS K).wp u0 PD ρ = (PD.nx ρ) := rfl
theorem w_SS_brk {K : PySem.W.Frag} {u0 : PEK} {PD : PEnds} {ρ : Env} : (SS.brk : SS K).wp u0 PD ρ = (PD.bk ρ) := rfl
theorem w_SS_cont {K : PySem.W.Frag} {u0 : PEK} {PD : PEnds} {ρ : Env} : (SS.cont : SS K).wp u0 PD ρ = (PD.ct ρ) := rfl
theorem w_SS_never {K : PySem.W.Frag} {u0 : PEK} {u1 : PEnds} {u2 : Env} : (SS.never : SS K).wp u0 u1 u2 = (False) := rfl
theorem w_SS_seq {K : PySem.W.Frag} {t u : SS K} {PE : PEK} {PD : PEnds} {ρ : Env} : (SS.seq t u : SS K).wp PE PD ρ = (t.wp PE { PD with nx := fun ρ' => u.wp PE PD ρ' } ρ) := rfl
theorem w_SS_cut {K : PySem.W.Frag} {t u : SS K} {PE : PEK} {PD : PEnds} {ρ : Env} : (SS.cut t u : SS K).wp PE PD ρ = (t.wp PE { PD with nx := fun ρ' => u.wp PE PD ρ' } ρ) := rfl
theorem w_SS_asg {K : PySem.W.Frag} {a : SE K} {g : SG K} {PE : PEK} {PD : PEnds} {ρ : Env} : (SS.asg a g : SS K).wp PE PD ρ = (a.wp PE ρ fun x ρ1 => g.wp x ρ1 PD.nx) := rfl
theorem w_SS_drop {K : PySem.W.Frag} {a : SE K} {PE : PEK} {PD : PEnds} {ρ : Env} : (SS.drop a : SS K).wp PE PD ρ = (a.wp PE ρ fun _ ρ1 => PD.nx ρ1) := rfl
theorem w_SS_ret {K : PySem.W.Frag} {a : SE K} {PE : PEK} {PD : PEnds} {ρ : Env} : (SS.ret a : SS K).wp PE PD ρ = (a.wp PE ρ fun x _ => PD.rt x) := rfl
theorem w_SS_retN {K : PySem.W.Frag} {u0 : PEK} {PD : PEnds} {u2 : Env} : (SS.retN : SS K).wp u0 PD u2 = (PD.rt .non) := rfl
theorem w_SS_ifS {K : PySem.W.Frag} {c : ST K} {t u : SS K} {PE : PEK} {PD : PEnds} {ρ : Env} : (SS.ifS c t u : SS K).wp PE PD ρ = (c.wp PE ρ fun k ρ1 => if k = true then t.wp PE PD ρ1 else u.wp PE PD ρ1) := rfl
theorem w_SS_for_ {K : PySem.W.Frag} {wi : SI K} {g : SG K} {b : SS K} {PE : PEK} {PD : PEnds} {ρ : Env} : (SS.for_ wi g b : SS K).wp PE PD ρ = (wi.wp PE ρ fun xs ρ1 => wpFor (fun x ρ2 PD' => g.wp x ρ2 fun ρ3 => b.wp PE PD' ρ3) xs ρ1 PD) := rfl
theorem w_SS_while_ {K : PySem.W.Frag} {c : ST K} {b : SS K} {PE : PEK} {PD : PEnds} {ρ : Env} : (SS.while_ c b : SS K).wp PE PD ρ = (∃ n, wpWhile (c.wp PE) (b.wp PE) PD n ρ) := rfl
theorem w_SN_lst {K : PySem.W.Frag} {a : SA K} {PE : PEK} {ρ : Env} {P : List PV → Env → Prop} : (SN.lst a : SN K).wp PE ρ P = (a.wp PE ρ fun xs ρ1 => xs.length ≤ sizeLine ∧ P xs ρ1) := rfl
theorem w_SE_nl {K : PySem.W.Frag} {n : SN K} {PE : PEK} {ρ : Env} {P : PV → Env → Prop} : (SE.nl n : SE K).wp PE ρ P = (n.wp PE ρ fun xs ρ1 => P (.lst xs) ρ1) := rfl
theorem w_SS_own {K : PySem.W.Frag} {i : Nat} {n : SN K} {PE : PEK} {PD : PEnds} {ρ : Env} : (SS.own i n : SS K).wp PE PD ρ = (n.wp PE ρ fun xs ρ1 => PD.nx (ρ1.set i (.own xs))) := rfl
theorem w_SN_lc {K : PySem.W.Frag} {wi : SI K} {g : SG K} {tt : ST K} {te : SE K} {PE : PEK} {ρ : Env} {P : List PV → Env → Prop} : (SN.lc wi g tt te : SN K).wp PE ρ P = (wi.wp PE ρ fun xs ρ1 => wpLc (lcStep g tt te PE) xs [] (wipeE ρ1 g.sl) P) := rfl
theorem w_SE_call {K : PySem.W.Frag} {sp : Sp} {psp : PSp} {hs : SpOk K sp psp} {a : SA K} {PE : PEK} {ρ : Env} {P : PV → Env → Prop} : (SE.call sp psp hs a : SE K).wp PE ρ P = (a.wp PE ρ fun xs ρ1 => psp xs (fun _ => False) fun x => P x ρ1) := rfl
theorem w_SE_callS {K : PySem.W.Frag} {sp : Sp} {psp : PSp} {hs : SpOk K sp psp} {a : SA K} {PE : PEK} {ρ : Env} {P : PV → Env → Prop} : (SE.callS sp psp hs a : SE K).wp PE ρ P = (a.wp PE ρ fun xs ρ1 => psp xs (fun er => PE ρ1 er) fun x => P x ρ1) := rfl
theorem w_SS_append {K : PySem.W.Frag} {i : Nat} {a : SE K} {PE : PEK} {PD : PEnds} {ρ : Env} : (SS.append i a : SS K).wp PE PD ρ = (∃ xs0, ρ[i]? = some (.own xs0) ∧ a.wp PE ρ fun y ρ1 => ∃ xs, ρ1[i]? = some (.own xs) ∧ xs.length < sizeLine ∧ PD.nx (ρ1.set i (.own (xs ++ [y])))) := rfl
theorem w_SE_pop {K : PySem.W.Frag} {i : Nat} {u0 : PEK} {ρ : Env} {P : PV → Env → Prop} : (SE.pop i : SE K).wp u0 ρ P = (∃ xs y, ρ[i]? = some (.own (xs ++ [y])) ∧ P y (ρ.set i (.own xs))) := rfl
theorem w_SO_i0 {K : PySem.W.Frag} {f : Int → Int → Int} {x : PV} {y : PV} {P : PV → Prop} : (SO.i0 f : SO K).wp x y P = (∃ i j, x = .int i ∧ y = .int j ∧ P (.int (f i j))) := rfl
theorem w_SO_c0 {K : PySem.W.Frag} {f : Int → Int → Bool} {x : PV} {y : PV} {P : PV → Prop} : (SO.c0 f : SO K).wp x y P = (∃ i j, x = .int i ∧ y = .int j ∧ P (.bl (f i j))) := rfl
theorem w_SO_iC {K : PySem.W.Frag} {C : Int → Int → Prop} {f : Int → Int → Int} {x : PV} {y : PV} {P : PV → Prop} : (SO.iC C f : SO K).wp x y P = (∃ i j, x = .int i ∧ y = .int j ∧ C i j ∧ P (.int (f i j))) := rfl
theorem w_SO_addS {K : PySem.W.Frag} {x : PV} {y : PV} {P : PV → Prop} : (SO.addS : SO K).wp x y P = (∃ i j, x = .str i ∧ y = .str j ∧ i.length + j.length ≤ sizeLine ∧ P (.str (i ++ j))) := rfl
theorem w_SO_repS {K : PySem.W.Frag} {x : PV} {y : PV} {P : PV → Prop} : (SO.repS : SO K).wp x y P = (∃ i j, x = .str i ∧ y = .int j ∧ MulOk i j ∧ P (.str (Txt.mul i j))) := rfl
theorem w_SO_catT {K : PySem.W.Frag} {x : PV} {y : PV} {P : PV → Prop} : (SO.catT : SO K).wp x y P = (∃ xs ys, x = .tup xs ∧ y = .tup ys ∧ xs.length + ys.length ≤ sizeLine ∧ P (.tup (xs ++ ys))) := rfl
theorem w_SO_ixS {K : PySem.W.Frag} {x : PV} {y : PV} {P : PV → Prop} : (SO.ixS : SO K).wp x y P = (∃ z i c, x = .str z ∧ y = .int i ∧ z.length ≤ sizeLine ∧ L2.atI z.cps.toList i = some c ∧ P (.str ⟨#[c]⟩)) := rfl
theorem w_SO_ixT {K : PySem.W.Frag} {x : PV} {y : PV} {P : PV → Prop} : (SO.ixT : SO K).wp x y P = (∃ xs i u, x = .tup xs ∧ y = .int i ∧ L2.atI xs i = some u ∧ P u) := rfl
theorem w_SO_ixL {K : PySem.W.Frag} {x : PV} {y : PV} {P : PV → Prop} : (SO.ixL : SO K).wp x y P = (∃ xs i u, x = .lst xs ∧ y = .int i ∧ L2.atI xs i = some u ∧ P u) := rfl
theorem w_SO_eq {K : PySem.W.Frag} {x : PV} {y : PV} {P : PV → Prop} : (SO.eq : SO K).wp x y P = (∃ v w, x.sv = some v ∧ y.sv = some w ∧ scal v w = true ∧ P (.bl (decide (v = w)))) := rfl
theorem w_SO_ne {K : PySem.W.Frag} {x : PV} {y : PV} {P : PV → Prop} : (SO.ne : SO K).wp x y P = (∃ v w, x.sv = some v ∧ y.sv = some w ∧ scal v w = true ∧ P (.bl (!decide (v = w)))) := rfl
theorem w_SO_eqB {K : PySem.W.Frag} {x : PV} {y : PV} {P : PV → Prop} : (SO.eqB : SO K).wp x y P = (x.plain = true ∧ y.plain = true ∧ x.pd.canLay0 = true ∧ y.pd.canLay0 = true ∧ min x.pd.depth y.pd.depth ≤ 200 ∧ P (.bl (PyData.eqv x.pd y.pd))) := rfl
theorem w_SO_neB {K : PySem.W.Frag} {x : PV} {y : PV} {P : PV → Prop} : (SO.neB : SO K).wp x y P = (x.plain = true ∧ y.plain = true ∧ x.pd.canLay0 = true ∧ y.pd.canLay0 = true ∧ min x.pd.depth y.pd.depth ≤ 200 ∧ P (.bl (!PyData.eqv x.pd y.pd))) := rfl
theorem w_SO_inS {K : PySem.W.Frag} {neg : Bool} {x : PV} {y : PV} {P : PV → Prop} : (SO.inS neg : SO K).wp x y P = (∃ (n : Str) (zs : List Str), x = .str n ∧ (y = .tup (zs.map .str) ∨ y = .lst (zs.map .str)) ∧ P (.bl (neg != decide (n ∈ zs)))) := rfl
theorem w_SP__no {K : PySem.W.Frag} {u0 : PEK} {ρ : Env} {P : Option Int → Env → Prop} : (SP_.no : SP_ K).wp u0 ρ P = (P none ρ) := rfl
theorem w_SP__at_ {K : PySem.W.Frag} {a : SE K} {PE : PEK} {ρ : Env} {P : Option Int → Env → Prop} : (SP_.at_ a : SP_ K).wp PE ρ P = (a.wp PE ρ fun x ρ1 => ∃ i, x = .int i ∧ P (some i) ρ1) := rfl
theorem w_SE_slS {K : PySem.W.Frag} {a : SE K} {lo hi : SP_ K} {PE : PEK} {ρ : Env} {P : PV → Env → Prop} : (SE.slS a lo hi : SE K).wp PE ρ P = (a.wp PE ρ fun x ρ1 => lo.wp PE ρ1 fun l ρ2 => hi.wp PE ρ2 fun h ρ3 => ∃ z, x = .str z ∧ z.length ≤ sizeLine ∧ P (.str (cutS z l h)) ρ3) := rfl
theorem w_SE_slT {K : PySem.W.Frag} {a : SE K} {lo hi : SP_ K} {PE : PEK} {ρ : Env} {P : PV → Env → Prop} : (SE.slT a lo hi : SE K).wp PE ρ P = (a.wp PE ρ fun x ρ1 => lo.wp PE ρ1 fun l ρ2 => hi.wp PE ρ2 fun h ρ3 => ∃ xs, x = .tup xs ∧ P (.tup (cutP xs l h)) ρ3) := rfl
theorem w_SN_slL {K : PySem.W.Frag} {a : SE K} {lo hi : SP_ K} {PE : PEK} {ρ : Env} {P : List PV → Env → Prop} : (SN.slL a lo hi : SN K).wp PE ρ P = (a.wp PE ρ fun x ρ1 => lo.wp PE ρ1 fun l ρ2 => hi.wp PE ρ2 fun h ρ3 => ∃ xs, x = .lst xs ∧ P (cutP xs l h) ρ3) := rfl
theorem w_SN_listOf {K : PySem.W.Frag} {a : SE K} {PE : PEK} {ρ : Env} {P : List PV → Env → Prop} : (SN.listOf a : SN K).wp PE ρ P = (a.wp PE ρ fun x ρ1 => ∃ xs, (x = .lst xs ∨ x = .tup xs) ∧ P xs ρ1) := rfl
theorem w_SN_cat {K : PySem.W.Frag} {a b : SE K} {PE : PEK} {ρ : Env} {P : List PV → Env → Prop} : (SN.cat a b : SN K).wp PE ρ P = (a.wp PE ρ fun x ρ1 => b.wp PE ρ1 fun y ρ2 => ∃ xs ys, x = .lst xs ∧ y = .lst ys ∧ xs.length + ys.length ≤ sizeLine ∧ P (xs ++ ys) ρ2) := rfl
theorem w_SB_lenS {K : PySem.W.Frag} {xs : List PV} {P : PV → Prop} : (SB.lenS : SB K).wp xs P = (∃ z, xs = [.str z] ∧ z.length ≤ sizeLine ∧ P (.int z.length)) := rfl
theorem w_SB_lenQ {K : PySem.W.Frag} {xs : List PV} {P : PV → Prop} : (SB.lenQ : SB K).wp xs P = (∃ ys, (xs = [.lst ys] ∨ xs = [.tup ys]) ∧ P (.int ys.length)) := rfl
theorem w_SB_abs {K : PySem.W.Frag} {xs : List PV} {P : PV → Prop} : (SB.abs : SB K).wp xs P = (∃ i, xs = [.int i] ∧ P (.int (if i < 0 then -i else i))) := rfl
theorem w_SB_int1 {K : PySem.W.Frag} {xs : List PV} {P : PV → Prop} : (SB.int1 : SB K).wp xs P = ((∃ i, xs = [.int i] ∧ P (.int i)) ∨ ∃ k, xs = [.bl k] ∧ P (.int (if k then 1 else 0))) := rfl
theorem w_SB_tupleOf {K : PySem.W.Frag} {xs : List PV} {P : PV → Prop} : (SB.tupleOf : SB K).wp xs P = (∃ ys, (xs = [.lst ys] ∨ xs = [.tup ys]) ∧ P (.tup ys)) := rfl
theorem w_SB_max2 {K : PySem.W.Frag} {xs : List PV} {P : PV → Prop} : (SB.max2 : SB K).wp xs P = (∃ i j, xs = [.int i, .int j] ∧ P (.int (if j > i then j else i))) := rfl
theorem w_SB_min2 {K : PySem.W.Frag} {xs : List PV} {P : PV → Prop} : (SB.min2 : SB K).wp xs P = (∃ i j, xs = [.int i, .int j] ∧ P (.int (if j < i then j else i))) := rfl
theorem w_SB_all_ {K : PySem.W.Frag} {xs : List PV} {P : PV → Prop} : (SB.all_ : SB K).wp xs P = (∃ bs : List Bool, xs = [.lst (bs.map .bl)] ∧ P (.bl (bs.all id))) := rfl
theorem w_SE_isi {K : PySem.W.Frag} {T : String} {a : SE K} {PE : PEK} {ρ : Env} {P : PV → Env → Prop} : (SE.isi T a : SE K).wp PE ρ P = (a.wp PE ρ fun x ρ1 => ∃ t0 b, x.tyN = some t0 ∧ kitB t0 T = some b ∧ P (.bl b) ρ1) := rfl
theorem w_SI_list {K : PySem.W.Frag} {a : SE K} {PE : PEK} {ρ : Env} {P : List PV → Env → Prop} : (SI.list a : SI K).wp PE ρ P = (a.wp PE ρ fun x ρ1 => ∃ xs, x = .lst xs ∧ P xs ρ1) := rfl
theorem w_SI_tup {K : PySem.W.Frag} {a : SE K} {PE : PEK} {ρ : Env} {P : List PV → Env → Prop} : (SI.tup a : SI K).wp PE ρ P = (a.wp PE ρ fun x ρ1 => ∃ xs, x = .tup xs ∧ P xs ρ1) := rfl
theorem w_SS_raise0 {K : PySem.W.Frag} {C : Addr} {PE : PEK} {u1 : PEnds} {ρ : Env} : (SS.raise0 C : SS K).wp PE u1 ρ = (PE ρ (C, [])) := rfl
theorem w_SS_raise1 {K : PySem.W.Frag} {C : Addr} {f : Str} {a : SE K} {PE : PEK} {u1 : PEnds} {ρ : Env} : (SS.raise1 C f a : SS K).wp PE u1 ρ = (a.wp PE ρ fun x ρ1 => PE ρ1 (C, [(f, x)])) := rfl
theorem w_SS_raise2 {K : PySem.W.Frag} {C : Addr} {f g : Str} {a b : SE K} {PE : PEK} {u1 : PEnds} {ρ : Env} : (SS.raise2 C f g a b : SS K).wp PE u1 ρ = (a.wp PE ρ fun x ρ1 => b.wp PE ρ1 fun y ρ2 => PE ρ2 (C, [(g, y), (f, x)])) := rfl
theorem w_SS_tryO {K : PySem.W.Frag} {C : Addr} {body cl : SS K} {PE : PEK} {PD : PEnds} {ρ : Env} : (SS.tryO C body cl : SS K).wp PE PD ρ = (body.wp (fun ρ1 er => ∃ b, PySem.W.exmOne K (.ref er.1) (.ref C) = some b ∧ (b = true → cl.wp PE PD ρ1) ∧ (b = false → PE ρ1 er)) PD ρ) := rfl
theorem w_SS_tryA {K : PySem.W.Frag} {C : Addr} {i : Nat} {body : SS K} {cl : Addr → Value → Option Addr → SS K} {PE : PEK} {PD : PEnds} {ρ : Env} : (SS.tryA C i body cl : SS K).wp PE PD ρ = (body.wp (fun ρ1 er => ∃ b, PySem.W.exmOne K (.ref er.1) (.ref C) = some b ∧ (b = true → ∀ a d, (cl a (.ref er.1) d).wp PE { nx := fun ρ' => PD.nx (ρ'.set i .no), rt := PD.rt, bk := fun ρ' => PD.bk (ρ'.set i .no), ct := fun ρ' => PD.ct (ρ'.set i .no) } (ρ1.set i (.err a d er))) ∧ (b = false → PE ρ1 er)) PD ρ) := rfl
theorem w_SS_tryM {K : PySem.W.Frag} {body : SS K} {l : List (Addr × SS K)} {PE : PEK} {PD : PEnds} {ρ : Env} : (SS.tryM body l : SS K).wp PE PD ρ = (body.wp (wpMany PE PD l) PD ρ) := rfl
theorem w_SE_xf {K : PySem.W.Frag} {a : Addr} {cls : Value} {d : Option Addr} {C : Addr} {f : Str} {i : Nat} {u0 : PEK} {ρ : Env} {P : PV → Env → Prop} : (SE.xf a cls d C f i : SE K).wp u0 ρ P = (∃ er x, ρ[i]? = some (.err a d er) ∧ cls = .ref C ∧ er.2.lookup f = some x ∧ P x ρ) := rfl
theorem w_SE_isE {K : PySem.W.Frag} {a : Addr} {cls : Value} {d : Option Addr} {C X : Addr} {i : Nat} {u0 : PEK} {ρ : Env} {P : PV → Env → Prop} : (SE.isE a cls d C X i : SE K).wp u0 ρ P = (∃ er b, ρ[i]? = some (.err a d er) ∧ er.2 ≠ [] ∧ cls = .ref C ∧ PySem.W.kitOne K (.ref C) (.ref X) = some b ∧ P (.bl b) ρ) := rfl
theorem w_SE_lenO {K : PySem.W.Frag} {i : Nat} {u0 : PEK} {ρ : Env} {P : PV → Env → Prop} : (SE.lenO i : SE K).wp u0 ρ P = (∃ xs, ρ[i]? = some (.own xs) ∧ P (.int xs.length) ρ) := rfl
theorem w_SE_tupO {K : PySem.W.Frag} {i : Nat} {u0 : PEK} {ρ : Env} {P : PV → Env → Prop} : (SE.tupO i : SE K).wp u0 ρ P = (∃ xs, ρ[i]? = some (.own xs) ∧ P (.tup xs) ρ) := rfl
theorem w_SE_ixO {K : PySem.W.Frag} {i : Nat} {b : SE K} {PE : PEK} {ρ : Env} {P : PV → Env → Prop} : (SE.ixO i b : SE K).wp PE ρ P = (∃ xs0, ρ[i]? = some (.own xs0) ∧ b.wp PE ρ fun y ρ1 => ∃ xs k u, ρ1[i]? = some (.own xs) ∧ y = .int k ∧ L2.atI xs k = some u ∧ P u ρ1) := rfl
theorem w_SE_inO {K : PySem.W.Frag} {neg : Bool} {a : SE K} {i : Nat} {PE : PEK} {ρ : Env} {P : PV → Env → Prop} : (SE.inO neg a i : SE K).wp PE ρ P = (a.wp PE ρ fun x ρ1 => ∃ (n : Str) (zs : List Str), x = .str n ∧ ρ1[i]? = some (.own (zs.map .str)) ∧ P (.bl (neg != decide (n ∈ zs))) ρ1) := rfl
theorem w_SE_eqEO {K : PySem.W.Frag} {neg : Bool} {i : Nat} {u0 : PEK} {ρ : Env} {P : PV → Env → Prop} : (SE.eqEO neg i : SE K).wp u0 ρ P = (∃ xs, ρ[i]? = some (.own xs) ∧ P (.bl (neg != xs.isEmpty)) ρ) := rfl
theorem w_SE_popAt {K : PySem.W.Frag} {i : Nat} {b : SE K} {PE : PEK} {ρ : Env} {P : PV → Env → Prop} : (SE.popAt i b : SE K).wp PE ρ P = (∃ xs0, ρ[i]? = some (.own xs0) ∧ b.wp PE ρ fun y ρ1 => ∃ xs k j u, ρ1[i]? = some (.own xs) ∧ y = .int k ∧ -(2 ^ 63) ≤ k ∧ k < 2 ^ 63 ∧ seqIndex? k xs.length = some j ∧ xs[j]? = some u ∧ P u (ρ1.set i (.own (xs.eraseIdx j)))) := rfl
theorem w_ST_truO {K : PySem.W.Frag} {i : Nat} {u0 : PEK} {ρ : Env} {P : Bool → Env → Prop} : (ST.truO i : ST K).wp u0 ρ P = (∃ xs, ρ[i]? = some (.own xs) ∧ P (!xs.isEmpty) ρ) := rfl
theorem w_SN_listO {K : PySem.W.Frag} {i : Nat} {u0 : PEK} {ρ : Env} {P : List PV → Env → Prop} : (SN.listO i : SN K).wp u0 ρ P = (∃ xs, ρ[i]? = some (.own xs) ∧ P xs ρ) := rfl
theorem w_SN_slO {K : PySem.W.Frag} {i : Nat} {lo hi : SP_ K} {PE : PEK} {ρ : Env} {P : List PV → Env → Prop} : (SN.slO i lo hi : SN K).wp PE ρ P = (∃ xs0, ρ[i]? = some (.own xs0) ∧ lo.wp PE ρ fun l ρ2 => hi.wp PE ρ2 fun h ρ3 => ∃ xs, ρ3[i]? = some (.own xs) ∧ P (cutP xs l h) ρ3) := rfl
theorem w_SN_revL {K : PySem.W.Frag} {a : SE K} {PE : PEK} {ρ : Env} {P : List PV → Env → Prop} : (SN.revL a : SN K).wp PE ρ P = (a.wp PE ρ fun x ρ1 => ∃ xs, x = .lst xs ∧ P xs.reverse ρ1) := rfl
theorem w_SN_rep {K : PySem.W.Frag} {a b : SE K} {PE : PEK} {ρ : Env} {P : List PV → Env → Prop} : (SN.rep a b : SN K).wp PE ρ P = (a.wp PE ρ fun x ρ1 => b.wp PE ρ1 fun y ρ2 => ∃ xs k, x = .lst xs ∧ y = .int k ∧ -(2 ^ 63) ≤ k ∧ k < 2 ^ 63 ∧ xs.length * k.toNat ≤ sizeLine ∧ P (List.replicate k.toNat xs).flatten ρ2) := rfl
theorem w_SN_sortedS {K : PySem.W.Frag} {a : SE K} {PE : PEK} {ρ : Env} {P : List PV → Env → Prop} : (SN.sortedS a : SN K).wp PE ρ P = (a.wp PE ρ fun x ρ1 => ∃ zs : List Str, x = .lst (zs.map .str) ∧ zs.length < 64 ∧ ∀ ys : List Str, ys.Perm zs → PyProof.Rows.sortedS ys = true → P (ys.map .str) ρ1) := rfl
theorem w_SN_sortedI {K : PySem.W.Frag} {a : SE K} {PE : PEK} {ρ : Env} {P : List PV → Env → Prop} : (SN.sortedI a : SN K).wp PE ρ P = (a.wp PE ρ fun x ρ1 => ∃ zs : List Int, x = .lst (zs.map .int) ∧ ∀ ys : List Int, ys.Perm zs → ys.Pairwise (· ≤ ·) → P (ys.map .int) ρ1) := rfl
theorem w_SS_extendT {K : PySem.W.Frag} {i : Nat} {a : SE K} {PE : PEK} {PD : PEnds} {ρ : Env} : (SS.extendT i a : SS K).wp PE PD ρ = (∃ xs0, ρ[i]? = some (.own xs0) ∧ a.wp PE ρ fun y ρ1 => ∃ xs ys, ρ1[i]? = some (.own xs) ∧ y = .tup ys ∧ xs.length + ys.length ≤ sizeLine ∧ PD.nx (ρ1.set i (.own (xs ++ ys)))) := rfl
theorem w_SS_extendL {K : PySem.W.Frag} {i : Nat} {a : SE K} {PE : PEK} {PD : PEnds} {ρ : Env} : (SS.extendL i a : SS K).wp PE PD ρ = (∃ xs0, ρ[i]? = some (.own xs0) ∧ a.wp PE ρ fun y ρ1 => ∃ xs ys, ρ1[i]? = some (.own xs) ∧ y = .lst ys ∧ xs.length + ys.length ≤ sizeLine ∧ PD.nx (ρ1.set i (.own (xs ++ ys)))) := rfl
theorem w_SS_insert {K : PySem.W.Frag} {i : Nat} {a b : SE K} {PE : PEK} {PD : PEnds} {ρ : Env} : (SS.insert i a b : SS K).wp PE PD ρ = (∃ xs0, ρ[i]? = some (.own xs0) ∧ a.wp PE ρ fun y ρ1 => b.wp PE ρ1 fun z ρ2 => ∃ xs k, ρ2[i]? = some (.own xs) ∧ y = .int k ∧ xs.length < sizeLine ∧ 0 ≤ k ∧ k < 2 ^ 63 ∧ PD.nx (ρ2.set i (.own (xs.take k.toNat ++ [z] ++ xs.drop k.toNat)))) := rfl
theorem w_SS_setL {K : PySem.W.Frag} {i : Nat} {k a : SE K} {PE : PEK} {PD : PEnds} {ρ : Env} : (SS.setL i k a : SS K).wp PE PD ρ = (a.wp PE ρ fun z ρ1 => ∃ xs0, ρ1[i]? = some (.own xs0) ∧ k.wp PE ρ1 fun y ρ2 => ∃ xs m j, ρ2[i]? = some (.own xs) ∧ y = .int m ∧ ixN xs.length m = some j ∧ PD.nx (ρ2.set i (.own (xs.set j z)))) := rfl
theorem w_SG_tup {K : PySem.W.Frag} {sl : List Nat} {x : PV} {ρ : Env} {P : Env → Prop} : (SG.tup sl : SG K).wp x ρ P = (∃ xs, x = .tup xs ∧ xs.length = sl.length ∧ P (setAll ρ sl xs)) := rfl
theorem w_SG_unl {K : PySem.W.Frag} {sl : List Nat} {x : PV} {ρ : Env} {P : Env → Prop} : (SG.unl sl : SG K).wp x ρ P = (∃ xs, x = .lst xs ∧ xs.length = sl.length ∧ P (setAll ρ sl xs)) := rfl
theorem w_SS_asg2 {K : PySem.W.Frag} {a : SE K} {g1 g2 : SG K} {PE : PEK} {PD : PEnds} {ρ : Env} : (SS.asg2 a g1 g2 : SS K).wp PE PD ρ = (a.wp PE ρ fun x ρ1 => g1.wp x ρ1 fun ρ2 => g2.wp x ρ2 PD.nx) := rfl
theorem w_SS_par {K : PySem.W.Frag} {i j : Nat} {a b : PR K} {PE : PEK} {PD : PEnds} {ρ : Env} : (SS.par i j a b : SS K).wp PE PD ρ = (i ≠ j ∧ a.wp PE ρ fun x ρ1 => b.wp PE ρ1 fun y ρ2 => PD.nx ((ρ2.set i x).set j y)) := rfl
theorem w_SI_zipA {K : PySem.W.Frag} {a b : SE K} {PE : PEK} {ρ : Env} {P : List PV → Env → Prop} : (SI.zipA a b : SI K).wp PE ρ P = (a.wp PE ρ fun x ρ1 => b.wp PE ρ1 fun y ρ2 => ∃ xs ys, ((x = .lst xs ∧ y = .lst ys) ∨ (x = .tup xs ∧ y = .tup ys)) ∧ P (zipP xs ys) ρ2) := rfl
theorem w_SI_enumL {K : PySem.W.Frag} {a : SE K} {PE : PEK} {ρ : Env} {P : List PV → Env → Prop} : (SI.enumL a : SI K).wp PE ρ P = (a.wp PE ρ fun x ρ1 => ∃ xs, x = .lst xs ∧ P (enumP xs) ρ1) := rfl
theorem w_SI_enumT {K : PySem.W.Frag} {a : SE K} {PE : PEK} {ρ : Env} {P : List PV → Env → Prop} : (SI.enumT a : SI K).wp PE ρ P = (a.wp PE ρ fun x ρ1 => ∃ xs, x = .tup xs ∧ P (enumP xs) ρ1) := rfl
theorem w_SI_rng1 {K : PySem.W.Frag} {a : SA K} {PE : PEK} {ρ : Env} {P : List PV → Env → Prop} : (SI.rng1 a : SI K).wp PE ρ P = (a.wp PE ρ fun xs ρ1 => ∃ j : Int, xs = [.int j] ∧ -(2 ^ 62) ≤ j ∧ j < 2 ^ 62 ∧ P ((List.range j.toNat).map fun i => .int (i : Nat)) ρ1) := rfl
theorem w_SI_rng2 {K : PySem.W.Frag} {a : SA K} {PE : PEK} {ρ : Env} {P : List PV → Env → Prop} : (SI.rng2 a : SI K).wp PE ρ P = (a.wp PE ρ fun xs ρ1 => ∃ i j : Int, xs = [.int i, .int j] ∧ -(2 ^ 62) ≤ i ∧ i < 2 ^ 62 ∧ -(2 ^ 62) ≤ j ∧ j < 2 ^ 62 ∧ P ((List.range (j - i).toNat).map fun k => .int (i + (k : Nat))) ρ1) := rfl
theorem w_SI_str {K : PySem.W.Frag} {a : SE K} {PE : PEK} {ρ : Env} {P : List PV → Env → Prop} : (SI.str a : SI K).wp PE ρ P = (a.wp PE ρ fun x ρ1 => ∃ z : Str, x = .str z ∧ P (z.cps.toList.map fun c => .str ⟨#[c]⟩) ρ1) := rfl
theorem w_SU_neg {K : PySem.W.Frag} {x : PV} {P : PV → Prop} : (SU.neg : SU K).wp x P = (∃ i, x = .int i ∧ P (.int (-i))) := rfl
theorem w_SE_fmt {K : PySem.W.Frag} {a : SE K} {PE : PEK} {ρ : Env} {P : PV → Env → Prop} : (SE.fmt a : SE K).wp PE ρ P = (a.wp PE ρ fun x ρ1 => (∃ y : Str, x = .str y ∧ y.length ≤ sizeLine ∧ P (.str y) ρ1) ∨ ∃ i : Int, x = .int i ∧ i.natAbs.log2 < 1920 ∧ P (.str (toString i)) ρ1) := rfl
theorem w_SE_joined {K : PySem.W.Frag} {ts : List (SE K)} {PE : PEK} {ρ : Env} {P : PV → Env → Prop} : (SE.joined ts : SE K).wp PE ρ P = (wpJs PE ts Str.empty ρ fun y ρ1 => P (.str y) ρ1) := rfl
theorem w_SE_join {K : PySem.W.Frag} {a b : SE K} {PE : PEK} {ρ : Env} {P : PV → Env → Prop} : (SE.join a b : SE K).wp PE ρ P = (a.wp PE ρ fun x ρ1 => ∃ z : Str, x = .str z ∧ b.wp PE ρ1 fun y ρ2 => ∃ ys : List Str, (y = .lst (ys.map .str) ∨ y = .tup (ys.map .str)) ∧ (ys.map (·.length)).sum + ys.length * z.length ≤ 16777216 ∧ P (.str (Txt.join z ys)) ρ2) := rfl
theorem w_SE_txtB {K : PySem.W.Frag} {f : Str → Bool} {a : SE K} {PE : PEK} {ρ : Env} {P : PV → Env → Prop} : (SE.txtB f a : SE K).wp PE ρ P = (a.wp PE ρ fun x ρ1 => ∃ z : Str, x = .str z ∧ P (.bl (f z)) ρ1) := rfl
theorem w_SE_lenSetT {K : PySem.W.Frag} {a : SE K} {PE : PEK} {ρ : Env} {P : PV → Env → Prop} : (SE.lenSetT a : SE K).wp PE ρ P = (a.wp PE ρ fun x ρ1 => ∃ zs : List Str, x = .tup (zs.map .str) ∧ zs.length < 4000 ∧ P (.int (dcnt zs zs.length : Nat)) ρ1) := rfl
theorem w_SE_revT {K : PySem.W.Frag} {a : SE K} {PE : PEK} {ρ : Env} {P : PV → Env → Prop} : (SE.revT a : SE K).wp PE ρ P = (a.wp PE ρ fun x ρ1 => ∃ xs, x = .tup xs ∧ P (.tup xs.reverse) ρ1) := rfl
theorem w_SE_chain {K : PySem.W.Frag} {o o' : SO K} {a b c : SE K} {PE : PEK} {ρ : Env} {P : PV → Env → Prop} : (SE.chain o o' a b c : SE K).wp PE ρ P = (a.wp PE ρ fun x ρ1 => b.wp PE ρ1 fun y ρ2 => o.wp x y fun z => ∃ k, z = .bl k ∧ if k = true then c.wp PE ρ2 fun w ρ3 => o'.wp y w fun u => P u ρ3 else P (.bl false) ρ2) := rfl
theorem w_SO_eqL {K : PySem.W.Frag} {x : PV} {y : PV} {P : PV → Prop} : (SO.eqL : SO K).wp x y P = (x.plain = true ∧ y.plain = true ∧ x.pd.canLay0 = true ∧ y.pd.canLay0 = true ∧ min x.pd.depth y.pd.depth ≤ 210 ∧ P (.bl (PyData.eqv x.pd y.pd))) := rfl
theorem w_SO_inSign {K : PySem.W.Frag} {neg : Bool} {x : PV} {y : PV} {P : PV → Prop} : (SO.inSign neg : SO K).wp x y P = (∃ (c : Nat) (z : Str), x = .str ⟨#[c]⟩ ∧ y = .str z ∧ P (.bl (neg != decide (c ∈ z.cps.toList)))) := rfl
theorem w_SO_eqE {K : PySem.W.Frag} {neg : Bool} {x : PV} {y : PV} {P : PV → Prop} : (SO.eqE neg : SO K).wp x y P = (∃ xs, ((x = .lst xs ∧ y = .lst []) ∨ (neg = false ∧ x = .tup xs ∧ y = .tup [])) ∧ P (.bl (neg != xs.isEmpty))) := rfl
theorem w_SB_repr {K : PySem.W.Frag} {xs : List PV} {P : PV → Prop} : (SB.repr : SB K).wp xs P = (∃ x ys, xs = [x] ∧ (x = .lst ys ∨ x = .tup ys) ∧ x.plain = true ∧ x.pd.showable = true ∧ x.pd.hasDict = false ∧ x.pd.depth ≤ 100 ∧ x.pd.shown.length ≤ sizeLine ∧ P (.str x.pd.shown)) := rfl
theorem w_for0 {st : PV → Env → PEnds → Prop} {ρ : Env} {PD : PEnds} : wpFor st [] ρ PD = PD.nx ρ := rfl
theorem w_for1 {st : PV → Env → PEnds → Prop} {x : PV} {xs : List PV} {ρ : Env} {PD : PEnds} : wpFor st (x :: xs) ρ PD = st x ρ { PD with nx := fun ρ' => wpFor st xs ρ' PD, ct := fun ρ' => wpFor st xs ρ' PD, bk := PD.nx } := rfl
end Tw
set_option Elab.async false
set_option linter.all false
set_option maxRecDepth 100000
set_option maxHeartbeats 4000000
/-! The plain layer: rules for loops and comprehensions, types, equality of data. -/
namespace Tw
open PySem PySem.Spec PyProof.Rows L2
theorem for_inv {step : PV → Env → PEnds → Prop} {PD : PEnds} (I : Nat → Env → Prop) : ∀ {xs : List PV} {ρ : Env}, I 0 ρ → (∀ i x ρ (k : Env → Prop), xs[i]? = some x → I i ρ → (∀ ρ', I (i + 1) ρ' → k ρ') → step x ρ { PD with nx := k, ct := k, bk := PD.nx }) →
    (∀ ρ, I xs.length ρ → PD.nx ρ) → wpFor step xs ρ PD := by
  have key : ∀ (ys : List PV) (n : Nat) (ρ : Env), I n ρ → (∀ i x ρ (k : Env → Prop), ys[i]? = some x → I (n + i) ρ → (∀ ρ', I (n + i + 1) ρ' → k ρ') → step x ρ { PD with nx := k, ct := k, bk := PD.nx }) → (∀ ρ, I (n + ys.length) ρ → PD.nx ρ) → wpFor step ys ρ PD := by
    intro ys
    induction ys with
    | nil => intro n ρ h0 _ hd; exact hd ρ h0
    | cons x ys ih =>
      intro n ρ h0 hs hd
      refine hs 0 x ρ _ rfl h0 fun ρ' h1 => ih (n + 1) ρ' h1 (fun i x ρ k hx hi hk => ?_) fun ρ h => hd ρ (by rw [List.length_cons, ← Nat.add_assoc, Nat.add_right_comm]; exact h)
      exact hs (i + 1) x ρ k (by simpa using hx) (by rw [← Nat.add_assoc, Nat.add_right_comm]; exact hi) fun ρ' h => hk ρ' (by rw [Nat.add_right_comm n 1 i, Nat.add_assoc n i 1] ; exact h)
  intro xs ρ h0 hs hd
  exact key xs 0 ρ h0 (fun i x ρ k hx hi hk => hs i x ρ k hx (by simpa using hi) fun ρ' h => hk ρ' (by simpa using h)) fun ρ h => hd ρ (by simpa using h)
/-- a comprehension whose turns do nothing else -/
theorem lc_fm {step : PV → Env → (Option PV → Env → Prop) → Prop} {ρ : Env} {P : List PV → Env → Prop} (f : PV → Option PV) : ∀ {xs acc : List PV}, (∀ x ∈ xs, ∀ k : Option PV → Env → Prop, k (f x) ρ → step x ρ k) → acc.length + xs.length ≤ sizeLine → P (acc ++ xs.filterMap f) ρ → wpLc step xs acc ρ P := by
  intro xs
  induction xs with
  | nil => intro acc _ _ h; simpa [wpLc] using h
  | cons x xs ih =>
    intro acc hs hl h
    rw [List.length_cons] at hl
    refine hs x (List.mem_cons_self ..) _ ?_
    cases hf : f x with
    | none =>
      refine ih (fun y hy => hs y (List.mem_cons_of_mem _ hy)) (by omega) ?_
      rw [List.filterMap_cons, hf] at h; exact h
    | some y =>
      refine ⟨by omega, ih (fun y hy => hs y (List.mem_cons_of_mem _ hy)) (by rw [List.length_append, List.length_singleton]; omega) ?_⟩
      rw [List.filterMap_cons, hf] at h
      rw [List.append_assoc]; exact h
theorem lc_map {step : PV → Env → (Option PV → Env → Prop) → Prop} {ρ : Env} {P : List PV → Env → Prop} (f : PV → PV) {xs acc : List PV} (hs : ∀ x ∈ xs, ∀ k : Option PV → Env → Prop, k (some (f x)) ρ → step x ρ k) (hl : acc.length + xs.length ≤ sizeLine) (h : P (acc ++ xs.map f) ρ) : wpLc step xs acc ρ P := by
  refine lc_fm (fun x => some (f x)) hs hl ?_
  have : xs.filterMap (fun x => some (f x)) = xs.map f := by
    induction xs with
    | nil => rfl
    | cons x xs ih => simp
  rw [this]; exact h
/-- a comprehension by an invariant of the number of turns and the list so far -/
theorem lc_inv {step : PV → Env → (Option PV → Env → Prop) → Prop} {P : List PV → Env → Prop} (I : Nat → List PV → Env → Prop) : ∀ {xs : List PV} {ρ : Env}, I 0 [] ρ →
    (∀ i x acc ρ (k : Option PV → Env → Prop), xs[i]? = some x → I i acc ρ → (∀ y ρ', acc.length < sizeLine ∧ I (i + 1) (acc ++ [y]) ρ' → k (some y) ρ') → (∀ ρ', I (i + 1) acc ρ' → k none ρ') → step x ρ k) → (∀ acc ρ, I xs.length acc ρ → P acc ρ) → wpLc step xs [] ρ P := by
  have key : ∀ (ys : List PV) (n : Nat) (acc : List PV) (ρ : Env), I n acc ρ →
      (∀ i x acc ρ (k : Option PV → Env → Prop), ys[i]? = some x → I (n + i) acc ρ → (∀ y ρ', acc.length < sizeLine ∧ I (n + i + 1) (acc ++ [y]) ρ' → k (some y) ρ') → (∀ ρ', I (n + i + 1) acc ρ' → k none ρ') → step x ρ k) → (∀ acc ρ, I (n + ys.length) acc ρ → P acc ρ) → wpLc step ys acc ρ P := by
    intro ys
    induction ys with
    | nil => intro n acc ρ h0 _ hd; exact hd acc ρ h0
    | cons x ys ih =>
      intro n acc ρ h0 hs hd
      have next : ∀ acc' ρ', I (n + 1) acc' ρ' → wpLc step ys acc' ρ' P := fun acc' ρ' h1 => ih (n + 1) acc' ρ' h1 (fun i x acc ρ k hx hi k1 k2 => hs (i + 1) x acc ρ k (by simpa using hx) (by rw [← Nat.add_assoc, Nat.add_right_comm]; exact hi)
        (fun y ρ' h => k1 y ρ' ⟨h.1, by rw [Nat.add_right_comm n 1 i, Nat.add_assoc n i 1]; exact h.2⟩) fun ρ' h => k2 ρ' (by rw [Nat.add_right_comm n 1 i, Nat.add_assoc n i 1]; exact h)) fun acc ρ h => hd acc ρ (by rw [List.length_cons, ← Nat.add_assoc, Nat.add_right_comm]; exact h)
      refine hs 0 x acc ρ _ rfl h0 (fun y ρ' h => ⟨h.1, next _ _ h.2⟩) fun ρ' h => next _ _ h
  intro xs ρ h0 hs hd
  exact key xs 0 [] ρ h0 (fun i x acc ρ k hx hi k1 k2 => hs i x acc ρ k hx (by simpa using hi) (fun y ρ' h => k1 y ρ' (by simpa using h)) fun ρ' h => k2 ρ' (by simpa using h)) fun acc ρ h => hd acc ρ (by simpa using h)
/-- a while by an invariant with a measure -/
theorem while_inv {c : Env → (Bool → Env → Prop) → Prop} {b : PEnds → Env → Prop} {PD : PEnds} (I : Nat → Env → Prop)
    (hs : ∀ m ρ (k : Bool → Env → Prop), I m ρ → (∀ ρ1, (∀ N : Env → Prop, (∀ m' ρ', m' < m → I m' ρ' → N ρ') → b { PD with nx := N, ct := N, bk := PD.nx } ρ1) → k true ρ1) → (∀ ρ1, PD.nx ρ1 → k false ρ1) → c ρ k) : ∀ {m : Nat} {ρ : Env}, I m ρ → ∃ n, wpWhile c b PD n ρ := by
  intro m
  have key : ∀ m, ∀ n, m < n → ∀ ρ, I m ρ → wpWhile c b PD n ρ := by
    intro m
    induction m using Nat.strongRecOn with
    | _ m ih =>
      intro n hn ρ h
      cases n with
      | zero => omega
      | succ n =>
        refine hs m ρ _ h (fun ρ1 hb => ?_) fun ρ1 h1 => ?_
        · exact hb _ fun m' ρ' hm h' => ih m' hm n (by omega) ρ' h'
        · exact h1
  intro ρ h
  exact ⟨m + 1, key m (m + 1) (Nat.lt_succ_self m) ρ h⟩
/-! ### types -/
section
theorem k_tt : kitB "tuple" "tuple" = some true := rfl
theorem k_ts : kitB "tuple" "str" = some false := rfl
theorem k_tl : kitB "tuple" "list" = some false := rfl
theorem k_ti : kitB "tuple" "int" = some false := rfl
theorem k_st : kitB "str" "tuple" = some false := rfl
theorem k_ss : kitB "str" "str" = some true := rfl
theorem k_sl : kitB "str" "list" = some false := rfl
theorem k_si : kitB "str" "int" = some false := rfl
theorem k_lt : kitB "list" "tuple" = some false := rfl
theorem k_ls : kitB "list" "str" = some false := rfl
theorem k_ll : kitB "list" "list" = some true := rfl
theorem k_li : kitB "list" "int" = some false := rfl
theorem k_it : kitB "int" "tuple" = some false := rfl
theorem k_is : kitB "int" "str" = some false := rfl
theorem k_il : kitB "int" "list" = some false := rfl
theorem k_ii : kitB "int" "int" = some true := rfl
theorem k_bt : kitB "bool" "tuple" = some false := rfl
theorem k_bs : kitB "bool" "str" = some false := rfl
theorem k_bl : kitB "bool" "list" = some false := rfl
theorem k_bi : kitB "bool" "int" = some true := rfl
theorem k_nt : kitB "NoneType" "tuple" = some false := rfl
theorem k_ns : kitB "NoneType" "str" = some false := rfl
theorem k_nl : kitB "NoneType" "list" = some false := rfl
theorem k_ni : kitB "NoneType" "int" = some false := rfl
theorem k_dt : kitB "dict" "tuple" = some false := rfl
theorem k_ds : kitB "dict" "str" = some false := rfl
theorem k_dl : kitB "dict" "list" = some false := rfl
theorem k_di : kitB "dict" "int" = some false := rfl
theorem sc_ii (i j : Int) : scal (.int i) (.int j) = true := rfl
theorem sc_ss (i j : Str) : scal (.str i) (.str j) = true := rfl
theorem sc_bb (i j : Bool) : scal (.bl i) (.bl j) = true := rfl
theorem sc_nn : scal .non .non = true := rfl
theorem sc_ni (j : Int) : scal .non (.int j) = true := rfl
theorem sc_in (j : Int) : scal (.int j) .non = true := rfl
theorem sc_ns (j : Str) : scal .non (.str j) = true := rfl
theorem sc_sn (j : Str) : scal (.str j) .non = true := rfl
end
/-! ### equality of data -/
section
variable {K : PySem.W.Frag}
theorem eqB_refl {x : PV} {P : PV → Prop} (h1 : x.plain = true) (h2 : x.pd.canLay0 = true) (h3 : x.pd.depth ≤ 200) (h : P (.bl true)) : (SO.eqB : SO K).wp x x P := by
  rw [w_SO_eqB]
  exact ⟨h1, h1, h2, h2, by omega, by rw [SeqAt.eqv_refl _ h2]; exact h⟩
theorem neB_refl {x : PV} {P : PV → Prop} (h1 : x.plain = true) (h2 : x.pd.canLay0 = true) (h3 : x.pd.depth ≤ 200) (h : P (.bl false)) : (SO.neB : SO K).wp x x P := by
  rw [w_SO_neB]
  exact ⟨h1, h1, h2, h2, by omega, by rw [SeqAt.eqv_refl _ h2]; exact h⟩
theorem eqL_refl {x : PV} {P : PV → Prop} (h1 : x.plain = true) (h2 : x.pd.canLay0 = true) (h3 : x.pd.depth ≤ 210) (h : P (.bl true)) : (SO.eqL : SO K).wp x x P := by
  rw [w_SO_eqL]
  exact ⟨h1, h1, h2, h2, by omega, by rw [SeqAt.eqv_refl _ h2]; exact h⟩
end
theorem pvs_plain : ∀ f : Fo, PV.plainL f.pvs = true
  | .nil => rfl
  | .cons n ks r => by simp only [Fo.pvs, PV.plainL, PV.plain, pvs_plain ks, pvs_plain r, Bool.and_self]
theorem pvs_pd : ∀ f : Fo, PV.pdL f.pvs = f.data
  | .nil => rfl
  | .cons n ks r => by simp only [Fo.pvs, PV.pdL, PV.pd, pvs_pd ks, pvs_pd r, Fo.data]
theorem pv_plain (f : Fo) : f.pv.plain = true := pvs_plain f
theorem pv_lay {f : Fo} (hn : ∀ z ∈ f.nm, IsName z) : f.pv.pd.canLay0 = true := by
  show PyData.canLay0 (.tuple (PV.pdL f.pvs)) = true
  rw [PyData.canLay0, pvs_pd]; exact data_lay f hn
theorem pv_depth {f : Fo} {n : Nat} (h : f.dp ≤ n) : f.pv.pd.depth ≤ 2 * n + 1 := by
  show PyData.depth (.tuple (PV.pdL f.pvs)) ≤ _
  rw [PyData.depth, pvs_pd]
  have := data_depth f
  omega
theorem strs_plain : ∀ zs : List Str, PV.plainL (zs.map .str) = true
  | [] => rfl
  | z :: zs => by simp only [List.map_cons, PV.plainL, PV.plain, strs_plain zs, Bool.and_self]
theorem strs_pd : ∀ zs : List Str, PV.pdL (zs.map .str) = zs.map PyData.str
  | [] => rfl
  | z :: zs => by simp only [List.map_cons, PV.pdL, PV.pd, strs_pd zs]
theorem gpv_plain : ∀ gs : List (List Str), PV.plainL (gs.map fun g => sT g) = true
  | [] => rfl
  | g :: gs => by simp only [List.map_cons, PV.plainL, PV.plain, strs_plain g, gpv_plain gs, Bool.and_self]
theorem gpv_pd : ∀ gs : List (List Str), PV.pdL (gs.map fun g => sT g) = gdata gs
  | [] => rfl
  | g :: gs => by simp only [List.map_cons, PV.pdL, PV.pd, strs_pd g, gpv_pd gs, gdata]
end Tw
namespace Tw
open PySem PySem.Spec PyProof.Rows L2
section
variable {xs : List PV} {kvs : List (Key × PV)} {b : Bool} {i : Int} {z : Str} {P : Bool → Prop}
theorem tn_non : PV.tyN .non = some "NoneType" := rfl
theorem tn_bl : PV.tyN (.bl b) = some "bool" := rfl
theorem tn_int : PV.tyN (.int i) = some "int" := rfl
theorem tn_str : PV.tyN (.str z) = some "str" := rfl
theorem tn_tup : PV.tyN (.tup xs) = some "tuple" := rfl
theorem tn_lst : PV.tyN (.lst xs) = some "list" := rfl
theorem tn_dic : PV.tyN (.dic kvs) = some "dict" := rfl
theorem tn_deck : PV.tyN .deck = none := rfl
theorem sv_non : PV.sv .non = some .non := rfl
theorem sv_bl : PV.sv (.bl b) = some (.bl b) := rfl
theorem sv_int : PV.sv (.int i) = some (.int i) := rfl
theorem sv_str : PV.sv (.str z) = some (.str z) := rfl
theorem tr_non : PV.tru .non P = P false := rfl
theorem tr_bl : PV.tru (.bl b) P = P b := rfl
theorem tr_int : PV.tru (.int i) P = P (i != 0) := rfl
theorem tr_str : PV.tru (.str z) P = (z.length ≤ sizeLine ∧ P ((z.length : Int) != 0)) := rfl
theorem tr_tup : PV.tru (.tup xs) P = P (!xs.isEmpty) := rfl
theorem tr_lst : PV.tru (.lst xs) P = P (!xs.isEmpty) := rfl
theorem tr_dic : PV.tru (.dic kvs) P = P (!kvs.isEmpty) := rfl
theorem in_non : PV.isN .non = true := rfl
theorem in_bl : PV.isN (.bl b) = false := rfl
theorem in_int : PV.isN (.int i) = false := rfl
theorem in_str : PV.isN (.str z) = false := rfl
theorem in_tup : PV.isN (.tup xs) = false := rfl
theorem in_lst : PV.isN (.lst xs) = false := rfl
theorem in_dic : PV.isN (.dic kvs) = false := rfl
end
section
variable {ρ : Env} {v : Nat} {vs sl : List Nat} {s : Str} {K : PySem.W.Frag} {i : Nat} {x : PV} {xs : List PV} {is : List Nat} {P : PV → Env → Prop}
theorem we_nil : wipeE ρ [] = ρ := rfl
theorem we_cons : wipeE ρ (v :: vs) = (wipeE ρ vs).set v .no := rfl
theorem sl_name : (SG.name i : SG K).sl = [i] := rfl
theorem sl_tup : (SG.tup sl : SG K).sl = sl := rfl
theorem sl_unl : (SG.unl sl : SG K).sl = sl := rfl
theorem sa_nil : setAll ρ [] [] = ρ := rfl
theorem sa_cons : setAll ρ (i :: is) (x :: xs) = setAll (ρ.set i (.val x)) is xs := rfl
theorem pr_val {a : SE K} {PE : PEK} {Q : Sl → Env → Prop} : (PR.val a).wp PE ρ Q = a.wp PE ρ fun x ρ1 => Q (.val x) ρ1 := rfl
theorem pr_own {a : SN K} {PE : PEK} {Q : Sl → Env → Prop} : (PR.own a).wp PE ρ Q = a.wp PE ρ fun xs ρ1 => Q (.own xs) ρ1 := rfl
theorem st_app {y : PV} : startE (v + 1) (y :: xs) = .val y :: startE v xs := by
  unfold startE
  rw [List.map_cons, List.cons_append, List.length_cons, Nat.add_sub_add_right]
theorem st_nil : startE v [] = List.replicate v .no := by unfold startE; simp
theorem js_nil {PE : PEK} {Q : Str → Env → Prop} : wpJs (K := K) PE [] s ρ Q = Q s ρ := rfl
theorem js_cons {PE : PEK} {t : SE K} {ts : List (SE K)} {Q : Str → Env → Prop} : wpJs PE (t :: ts) s ρ Q = t.wp PE ρ fun x ρ1 => ∃ y : Str, x = .str y ∧ (s ++ y).length ≤ sizeLine ∧ wpJs PE ts (s ++ y) ρ1 Q := rfl
end
end Tw
set_option Elab.async false
set_option linter.all false
set_option maxRecDepth 100000
set_option maxHeartbeats 4000000
/-! The plain layer: what operations do of known values. -/
namespace Tw
open PySem PySem.Spec PyProof.Rows L2
/-- the own list of slot i -/
def owp (i : Nat) (ρ : Env) (P : List PV → Prop) : Prop :=
  match ρ[i]? with
  | some (.own xs) => P xs
  | _ => False
def dwp (i : Nat) (ρ : Env) (P : List (Key × PV) → Prop) : Prop :=
  match ρ[i]? with
  | some (.ownD xs) => P xs
  | _ => False
theorem owp_ex {i : Nat} {ρ : Env} {P : List PV → Prop} : (∃ xs, ρ[i]? = some (.own xs) ∧ P xs) = owp i ρ P := by
  apply propext
  unfold owp
  constructor
  · rintro ⟨xs, h, p⟩; rw [h]; exact p
  · intro h
    split at h
    · rename_i xs e; exact ⟨xs, e, h⟩
    · cases h
section
variable {K : PySem.W.Frag} {P : PV → Prop} {i j : Int} {a b : Str} {xs ys : List PV} {PE : PEK} {ρ : Env} {PD : PEnds} {Q : PV → Env → Prop} {n : Nat} {k : Bool}
theorem c_i0 {f : Int → Int → Int} : (SO.i0 f : SO K).wp (.int i) (.int j) P = P (.int (f i j)) := by rw [w_SO_i0]; simp
theorem c_c0 {f : Int → Int → Bool} : (SO.c0 f : SO K).wp (.int i) (.int j) P = P (.bl (f i j)) := by rw [w_SO_c0]; simp
theorem c_iC {C : Int → Int → Prop} {f : Int → Int → Int} : (SO.iC C f : SO K).wp (.int i) (.int j) P = (C i j ∧ P (.int (f i j))) := by rw [w_SO_iC]; simp
theorem c_addS : (SO.addS : SO K).wp (.str a) (.str b) P = (a.length + b.length ≤ sizeLine ∧ P (.str (a ++ b))) := by rw [w_SO_addS]; simp
theorem c_repS : (SO.repS : SO K).wp (.str a) (.int j) P = (MulOk a j ∧ P (.str (Txt.mul a j))) := by rw [w_SO_repS]; simp
theorem c_catT : (SO.catT : SO K).wp (.tup xs) (.tup ys) P = (xs.length + ys.length ≤ sizeLine ∧ P (.tup (xs ++ ys))) := by rw [w_SO_catT]; simp
theorem c_ixS : (SO.ixS : SO K).wp (.str a) (.int j) P = (a.length ≤ sizeLine ∧ ∃ c, L2.atI a.cps.toList j = some c ∧ P (.str ⟨#[c]⟩)) := by rw [w_SO_ixS]; simp
theorem c_ixT : (SO.ixT : SO K).wp (.tup xs) (.int j) P = (∃ u, L2.atI xs j = some u ∧ P u) := by rw [w_SO_ixT]; simp
theorem c_ixL : (SO.ixL : SO K).wp (.lst xs) (.int j) P = (∃ u, L2.atI xs j = some u ∧ P u) := by rw [w_SO_ixL]; simp
theorem c_eq_ii : (SO.eq : SO K).wp (.int i) (.int j) P = P (.bl (decide (i = j))) := by rw [w_SO_eq]; simp [PV.sv, scal]
theorem c_eq_ss : (SO.eq : SO K).wp (.str a) (.str b) P = P (.bl (decide (a = b))) := by rw [w_SO_eq]; simp [PV.sv, scal]
theorem c_eq_ns : (SO.eq : SO K).wp .non (.str b) P = P (.bl false) := by rw [w_SO_eq]; simp [PV.sv, scal]
theorem c_eq_sn : (SO.eq : SO K).wp (.str b) .non P = P (.bl false) := by rw [w_SO_eq]; simp [PV.sv, scal]
theorem c_eq_bb {k' : Bool} : (SO.eq : SO K).wp (.bl k) (.bl k') P = P (.bl (decide (k = k'))) := by rw [w_SO_eq]; simp [PV.sv, scal]
theorem c_eq_nn : (SO.eq : SO K).wp .non .non P = P (.bl true) := by rw [w_SO_eq]; simp [PV.sv, scal]
theorem c_eq_ni : (SO.eq : SO K).wp .non (.int j) P = P (.bl false) := by rw [w_SO_eq]; simp [PV.sv, scal]
theorem c_eq_in : (SO.eq : SO K).wp (.int j) .non P = P (.bl false) := by rw [w_SO_eq]; simp [PV.sv, scal]
theorem c_ne_ii : (SO.ne : SO K).wp (.int i) (.int j) P = P (.bl (!decide (i = j))) := by rw [w_SO_ne]; simp [PV.sv, scal]
theorem c_ne_ss : (SO.ne : SO K).wp (.str a) (.str b) P = P (.bl (!decide (a = b))) := by rw [w_SO_ne]; simp [PV.sv, scal]
theorem c_ne_bb {k' : Bool} : (SO.ne : SO K).wp (.bl k) (.bl k') P = P (.bl (!decide (k = k'))) := by rw [w_SO_ne]; simp [PV.sv, scal]
theorem c_ne_ns : (SO.ne : SO K).wp .non (.str b) P = P (.bl true) := by rw [w_SO_ne]; simp [PV.sv, scal]
theorem c_ne_sn : (SO.ne : SO K).wp (.str b) .non P = P (.bl true) := by rw [w_SO_ne]; simp [PV.sv, scal]
theorem c_ne_nn : (SO.ne : SO K).wp .non .non P = P (.bl false) := by rw [w_SO_ne]; simp [PV.sv, scal]
theorem c_ne_ni : (SO.ne : SO K).wp .non (.int j) P = P (.bl true) := by rw [w_SO_ne]; simp [PV.sv, scal]
theorem c_ne_in : (SO.ne : SO K).wp (.int j) .non P = P (.bl true) := by rw [w_SO_ne]; simp [PV.sv, scal]
theorem c_inST {neg : Bool} {zs : List Str} : (SO.inS neg : SO K).wp (.str a) (sT zs) P = P (.bl (neg != decide (a ∈ zs))) := by
  rw [w_SO_inS]; apply propext; constructor
  · rintro ⟨m, ws, h1, h2, h3⟩
    cases h1
    rcases h2 with h2 | h2
    · have e : zs = ws := map_inj0 (PV.tup.inj h2)
      rw [e]; exact h3
    · cases h2
  · intro h; exact ⟨a, zs, rfl, .inl rfl, h⟩
where map_inj0 : ∀ {x y : List Str}, x.map PV.str = y.map PV.str → x = y
  | [], [], _ => rfl
  | [], _ :: _, h => by cases h
  | _ :: _, [], h => by cases h
  | p :: x, q :: y, h => by
    rw [List.map_cons, List.map_cons] at h
    obtain ⟨h1, h2⟩ := List.cons.inj h
    cases h1
    rw [map_inj0 h2]
theorem c_inSL {neg : Bool} {zs : List Str} : (SO.inS neg : SO K).wp (.str a) (sL zs) P = P (.bl (neg != decide (a ∈ zs))) := by
  rw [w_SO_inS]; apply propext; constructor
  · rintro ⟨m, ws, h1, h2, h3⟩
    cases h1
    rcases h2 with h2 | h2
    · cases h2
    · have e : zs = ws := c_inST.map_inj0 (PV.lst.inj h2)
      rw [e]; exact h3
  · intro h; exact ⟨a, zs, rfl, .inr rfl, h⟩
theorem c_lenS : (SB.lenS : SB K).wp [.str a] P = (a.length ≤ sizeLine ∧ P (.int a.length)) := by rw [w_SB_lenS]; simp
theorem c_lenQt : (SB.lenQ : SB K).wp [.tup xs] P = P (.int xs.length) := by rw [w_SB_lenQ]; simp
theorem c_lenQl : (SB.lenQ : SB K).wp [.lst xs] P = P (.int xs.length) := by rw [w_SB_lenQ]; simp
theorem c_abs : (SB.abs : SB K).wp [.int i] P = P (.int (if i < 0 then -i else i)) := by rw [w_SB_abs]; simp
theorem c_int1i : (SB.int1 : SB K).wp [.int i] P = P (.int i) := by rw [w_SB_int1]; simp
theorem c_int1b : (SB.int1 : SB K).wp [.bl k] P = P (.int (if k then 1 else 0)) := by rw [w_SB_int1]; simp
theorem c_tupl : (SB.tupleOf : SB K).wp [.lst xs] P = P (.tup xs) := by rw [w_SB_tupleOf]; simp
theorem c_tupt : (SB.tupleOf : SB K).wp [.tup xs] P = P (.tup xs) := by rw [w_SB_tupleOf]; simp
theorem c_max2 : (SB.max2 : SB K).wp [.int i, .int j] P = P (.int (if j > i then j else i)) := by
  rw [w_SB_max2]; apply propext; exact ⟨fun ⟨_, _, e, h⟩ => by cases e; exact h, fun h => ⟨_, _, rfl, h⟩⟩
theorem c_min2 : (SB.min2 : SB K).wp [.int i, .int j] P = P (.int (if j < i then j else i)) := by
  rw [w_SB_min2]; apply propext; exact ⟨fun ⟨_, _, e, h⟩ => by cases e; exact h, fun h => ⟨_, _, rfl, h⟩⟩
theorem c_neg : (SU.neg : SU K).wp (.int i) P = P (.int (-i)) := by rw [w_SU_neg]; simp
/-- what a test does of a value -/
def tst (x : PV) (R : Bool → Prop) : Prop := ∃ k, x = .bl k ∧ R k
theorem c_tst {R : Bool → Prop} : tst (.bl k) R = R k := by unfold tst; simp
def asI (x : PV) (R : Int → Prop) : Prop := ∃ k, x = .int k ∧ R k
theorem c_asI {R : Int → Prop} : asI (.int i) R = R i := by unfold asI; simp
def asS (x : PV) (R : Str → Prop) : Prop := ∃ k, x = .str k ∧ R k
theorem c_asS {R : Str → Prop} : asS (.str a) R = R a := by unfold asS; simp
def asT (x : PV) (R : List PV → Prop) : Prop := ∃ k, x = .tup k ∧ R k
theorem c_asT {R : List PV → Prop} : asT (.tup xs) R = R xs := by unfold asT; simp
def asL (x : PV) (R : List PV → Prop) : Prop := ∃ k, x = .lst k ∧ R k
theorem c_asL {R : List PV → Prop} : asL (.lst xs) R = R xs := by unfold asL; simp
def asQ (x : PV) (R : List PV → Prop) : Prop := ∃ k, (x = .lst k ∨ x = .tup k) ∧ R k
theorem c_asQl {R : List PV → Prop} : asQ (.lst xs) R = R xs := by unfold asQ; simp
theorem c_asQt {R : List PV → Prop} : asQ (.tup xs) R = R xs := by unfold asQ; simp
def ofT (T : String) (x : PV) (R : Bool → Prop) : Prop := ∃ t0 b, x.tyN = some t0 ∧ kitB t0 T = some b ∧ R b
theorem of_t {R : Bool → Prop} {T : String} (h : kitB "tuple" T = some k) : ofT T (.tup xs) R = R k := by unfold ofT; cases k <;> simp [PV.tyN, h]
theorem of_s {R : Bool → Prop} {T : String} (h : kitB "str" T = some k) : ofT T (.str a) R = R k := by unfold ofT; cases k <;> simp [PV.tyN, h]
theorem of_l {R : Bool → Prop} {T : String} (h : kitB "list" T = some k) : ofT T (.lst xs) R = R k := by unfold ofT; cases k <;> simp [PV.tyN, h]
theorem of_i {R : Bool → Prop} {T : String} (h : kitB "int" T = some k) : ofT T (.int i) R = R k := by unfold ofT; cases k <;> simp [PV.tyN, h]
theorem of_b {R : Bool → Prop} {T : String} {v : Bool} (h : kitB "bool" T = some k) : ofT T (.bl v) R = R k := by unfold ofT; cases k <;> simp [PV.tyN, h]
theorem of_n {R : Bool → Prop} {T : String} (h : kitB "NoneType" T = some k) : ofT T .non R = R k := by unfold ofT; cases k <;> simp [PV.tyN, h]
theorem of_d {R : Bool → Prop} {T : String} {kvs : List (Key × PV)} (h : kitB "dict" T = some k) : ofT T (.dic kvs) R = R k := by unfold ofT; cases k <;> simp [PV.tyN, h]
section
variable {R : Bool → Prop} {v : Bool} {kvs : List (Key × PV)}
theorem o_tt : ofT "tuple" (.tup xs) R = R true := of_t k_tt
theorem o_ts : ofT "str" (.tup xs) R = R false := of_t k_ts
theorem o_tl : ofT "list" (.tup xs) R = R false := of_t k_tl
theorem o_ti : ofT "int" (.tup xs) R = R false := of_t k_ti
theorem o_st : ofT "tuple" (.str a) R = R false := of_s k_st
theorem o_ss : ofT "str" (.str a) R = R true := of_s k_ss
theorem o_sl_ : ofT "list" (.str a) R = R false := of_s k_sl
theorem o_si : ofT "int" (.str a) R = R false := of_s k_si
theorem o_lt : ofT "tuple" (.lst xs) R = R false := of_l k_lt
theorem o_ls : ofT "str" (.lst xs) R = R false := of_l k_ls
theorem o_ll : ofT "list" (.lst xs) R = R true := of_l k_ll
theorem o_li : ofT "int" (.lst xs) R = R false := of_l k_li
theorem o_it : ofT "tuple" (.int i) R = R false := of_i k_it
theorem o_is : ofT "str" (.int i) R = R false := of_i k_is
theorem o_il : ofT "list" (.int i) R = R false := of_i k_il
theorem o_ii : ofT "int" (.int i) R = R true := of_i k_ii
theorem o_bt : ofT "tuple" (.bl v) R = R false := of_b k_bt
theorem o_bs : ofT "str" (.bl v) R = R false := of_b k_bs
theorem o_bl_ : ofT "list" (.bl v) R = R false := of_b k_bl
theorem o_bi : ofT "int" (.bl v) R = R true := of_b k_bi
theorem o_nt : ofT "tuple" .non R = R false := of_n k_nt
theorem o_ns : ofT "str" .non R = R false := of_n k_ns
theorem o_nl : ofT "list" .non R = R false := of_n k_nl
theorem o_ni : ofT "int" .non R = R false := of_n k_ni
theorem o_dt : ofT "tuple" (.dic kvs) R = R false := of_d k_dt
theorem o_ds : ofT "str" (.dic kvs) R = R false := of_d k_ds
theorem o_dl : ofT "list" (.dic kvs) R = R false := of_d k_dl
theorem o_di : ofT "int" (.dic kvs) R = R false := of_d k_di
end
/-! rows that hide their choice -/
theorem v_test {t : SE K} {R : Bool → Env → Prop} : (ST.test t).wp PE ρ R = t.wp PE ρ fun x ρ1 => tst x fun k => R k ρ1 := rfl
theorem v_b {t : SE K} {R : Bool → Env → Prop} : (ST.b t).wp PE ρ R = t.wp PE ρ fun x ρ1 => tst x fun k => R k ρ1 := rfl
theorem v_andV {s t : SE K} : (SE.andV s t).wp PE ρ Q = s.wp PE ρ fun x ρ1 => tst x fun c => if c = true then t.wp PE ρ1 Q else Q (.bl false) ρ1 := rfl
theorem v_orV {s t : SE K} : (SE.orV s t).wp PE ρ Q = s.wp PE ρ fun x ρ1 => tst x fun c => if c = true then Q (.bl true) ρ1 else t.wp PE ρ1 Q := rfl
theorem v_notV {s : SE K} : (SE.notV s).wp PE ρ Q = s.wp PE ρ fun x ρ1 => tst x fun c => Q (.bl (!c)) ρ1 := rfl
theorem v_isi {T : String} {s : SE K} : (SE.isi T s).wp PE ρ Q = s.wp PE ρ fun x ρ1 => ofT T x fun b => Q (.bl b) ρ1 := rfl
theorem v_at {s : SE K} {R : Option Int → Env → Prop} : (SP_.at_ s).wp PE ρ R = s.wp PE ρ fun x ρ1 => asI x fun i => R (some i) ρ1 := rfl
theorem v_slS {s : SE K} {lo hi : SP_ K} : (SE.slS s lo hi).wp PE ρ Q = s.wp PE ρ fun x ρ1 => lo.wp PE ρ1 fun l ρ2 => hi.wp PE ρ2 fun h ρ3 => asS x fun z => z.length ≤ sizeLine ∧ Q (.str (cutS z l h)) ρ3 := rfl
theorem v_slT {s : SE K} {lo hi : SP_ K} : (SE.slT s lo hi).wp PE ρ Q = s.wp PE ρ fun x ρ1 => lo.wp PE ρ1 fun l ρ2 => hi.wp PE ρ2 fun h ρ3 => asT x fun z => Q (.tup (cutP z l h)) ρ3 := rfl
theorem v_slL {s : SE K} {lo hi : SP_ K} {R : List PV → Env → Prop} : (SN.slL s lo hi).wp PE ρ R = s.wp PE ρ fun x ρ1 => lo.wp PE ρ1 fun l ρ2 => hi.wp PE ρ2 fun h ρ3 => asL x fun z => R (cutP z l h) ρ3 := rfl
theorem v_listOf {s : SE K} {R : List PV → Env → Prop} : (SN.listOf s).wp PE ρ R = s.wp PE ρ fun x ρ1 => asQ x fun z => R z ρ1 := rfl
theorem v_revL {s : SE K} {R : List PV → Env → Prop} : (SN.revL s).wp PE ρ R = s.wp PE ρ fun x ρ1 => asL x fun z => R z.reverse ρ1 := rfl
theorem v_revT {s : SE K} : (SE.revT s).wp PE ρ Q = s.wp PE ρ fun x ρ1 => asT x fun z => Q (.tup z.reverse) ρ1 := rfl
theorem v_cat {s t : SE K} {R : List PV → Env → Prop} : (SN.cat s t).wp PE ρ R = s.wp PE ρ fun x ρ1 => t.wp PE ρ1 fun y ρ2 => asL x fun xs => asL y fun ys => xs.length + ys.length ≤ sizeLine ∧ R (xs ++ ys) ρ2 := by
  rw [w_SN_cat]; unfold asL; congr; funext x ρ1; congr; funext y ρ2; simp
theorem v_rep {s t : SE K} {R : List PV → Env → Prop} : (SN.rep s t).wp PE ρ R = s.wp PE ρ fun x ρ1 => t.wp PE ρ1 fun y ρ2 => asL x fun xs => asI y fun k => -(2 ^ 63) ≤ k ∧ k < 2 ^ 63 ∧ xs.length * k.toNat ≤ sizeLine ∧ R (List.replicate k.toNat xs).flatten ρ2 := by
  rw [w_SN_rep]; unfold asL asI; congr; funext x ρ1; congr; funext y ρ2; simp
theorem v_ilist {s : SE K} {R : List PV → Env → Prop} : (SI.list s).wp PE ρ R = s.wp PE ρ fun x ρ1 => asL x fun z => R z ρ1 := rfl
theorem v_itup {s : SE K} {R : List PV → Env → Prop} : (SI.tup s).wp PE ρ R = s.wp PE ρ fun x ρ1 => asT x fun z => R z ρ1 := rfl
theorem v_istr {s : SE K} {R : List PV → Env → Prop} : (SI.str s).wp PE ρ R = s.wp PE ρ fun x ρ1 => asS x fun z => R (z.cps.toList.map fun c => .str ⟨#[c]⟩) ρ1 := rfl
theorem v_enumL {s : SE K} {R : List PV → Env → Prop} : (SI.enumL s).wp PE ρ R = s.wp PE ρ fun x ρ1 => asL x fun z => R (enumP z) ρ1 := rfl
theorem v_enumT {s : SE K} {R : List PV → Env → Prop} : (SI.enumT s).wp PE ρ R = s.wp PE ρ fun x ρ1 => asT x fun z => R (enumP z) ρ1 := rfl
def rngOf (xs : List PV) (R : List PV → Prop) : Prop := ∃ j : Int, xs = [.int j] ∧ -(2 ^ 62) ≤ j ∧ j < 2 ^ 62 ∧ R ((List.range j.toNat).map fun i => .int (i : Nat))
def rngOf2 (xs : List PV) (R : List PV → Prop) : Prop := ∃ i j : Int, xs = [.int i, .int j] ∧ -(2 ^ 62) ≤ i ∧ i < 2 ^ 62 ∧ -(2 ^ 62) ≤ j ∧ j < 2 ^ 62 ∧ R ((List.range (j - i).toNat).map fun k => .int (i + (k : Nat)))
theorem v_rng1 {s : SA K} {R : List PV → Env → Prop} : (SI.rng1 s).wp PE ρ R = s.wp PE ρ fun x ρ1 => rngOf x fun z => R z ρ1 := rfl
theorem v_rng2 {s : SA K} {R : List PV → Env → Prop} : (SI.rng2 s).wp PE ρ R = s.wp PE ρ fun x ρ1 => rngOf2 x fun z => R z ρ1 := rfl
theorem c_rng1 {R : List PV → Prop} : rngOf [.int j] R = (-(2 ^ 62) ≤ j ∧ j < 2 ^ 62 ∧ R ((List.range j.toNat).map fun i => .int (i : Nat))) := by unfold rngOf; simp
theorem c_rng2 {R : List PV → Prop} : rngOf2 [.int i, .int j] R = (-(2 ^ 62) ≤ i ∧ i < 2 ^ 62 ∧ -(2 ^ 62) ≤ j ∧ j < 2 ^ 62 ∧ R ((List.range (j - i).toNat).map fun k => .int (i + (k : Nat)))) := by
  unfold rngOf2; apply propext; exact ⟨fun ⟨_, _, e, h⟩ => by cases e; exact h, fun h => ⟨_, _, rfl, h⟩⟩
/-- two lists or two tuples, zipped -/
def zipOf (x y : PV) (R : List PV → Prop) : Prop := ∃ xs ys, ((x = .lst xs ∧ y = .lst ys) ∨ (x = .tup xs ∧ y = .tup ys)) ∧ R (zipP xs ys)
theorem v_zipA {s t : SE K} {R : List PV → Env → Prop} : (SI.zipA s t).wp PE ρ R = s.wp PE ρ fun x ρ1 => t.wp PE ρ1 fun y ρ2 => zipOf x y fun z => R z ρ2 := rfl
theorem c_zipt {R : List PV → Prop} : zipOf (.tup xs) (.tup ys) R = R (zipP xs ys) := by
  unfold zipOf; apply propext; constructor
  · rintro ⟨_, _, h | h, q⟩ <;> cases h.1
    cases h.2; exact q
  · exact fun h => ⟨_, _, .inr ⟨rfl, rfl⟩, h⟩
theorem c_zipl {R : List PV → Prop} : zipOf (.lst xs) (.lst ys) R = R (zipP xs ys) := by
  unfold zipOf; apply propext; constructor
  · rintro ⟨_, _, h | h, q⟩ <;> cases h.1
    cases h.2; exact q
  · exact fun h => ⟨_, _, .inl ⟨rfl, rfl⟩, h⟩
/-- what a target of several names takes -/
def unp (x : PV) (m : Nat) (R : List PV → Prop) : Prop := ∃ xs, x = .tup xs ∧ xs.length = m ∧ R xs
theorem v_gtup {sl : List Nat} {x : PV} {R : Env → Prop} : (SG.tup sl : SG K).wp x ρ R = unp x sl.length fun xs => R (setAll ρ sl xs) := rfl
theorem c_unp {m : Nat} {R : List PV → Prop} : unp (.tup xs) m R = (xs.length = m ∧ R xs) := by unfold unp; simp
def unpL (x : PV) (m : Nat) (R : List PV → Prop) : Prop := ∃ xs, x = .lst xs ∧ xs.length = m ∧ R xs
theorem v_gunl {sl : List Nat} {x : PV} {R : Env → Prop} : (SG.unl sl : SG K).wp x ρ R = unpL x sl.length fun xs => R (setAll ρ sl xs) := rfl
theorem c_unpL {m : Nat} {R : List PV → Prop} : unpL (.lst xs) m R = (xs.length = m ∧ R xs) := by unfold unpL; simp
/-- formatted -/
def fmtOf (x : PV) (R : PV → Prop) : Prop := (∃ y : Str, x = .str y ∧ y.length ≤ sizeLine ∧ R (.str y)) ∨ ∃ i : Int, x = .int i ∧ i.natAbs.log2 < 1920 ∧ R (.str (toString i))
theorem v_fmt {s : SE K} : (SE.fmt s).wp PE ρ Q = s.wp PE ρ fun x ρ1 => fmtOf x fun y => Q y ρ1 := rfl
theorem c_fmts {R : PV → Prop} : fmtOf (.str a) R = (a.length ≤ sizeLine ∧ R (.str a)) := by unfold fmtOf; simp
theorem c_fmti {R : PV → Prop} : fmtOf (.int i) R = (i.natAbs.log2 < 1920 ∧ R (.str (toString i))) := by unfold fmtOf; simp
theorem v_js {t : SE K} {ts : List (SE K)} {R : Str → Env → Prop} : wpJs PE (t :: ts) a ρ R = t.wp PE ρ fun x ρ1 => asS x fun y => (a ++ y).length ≤ sizeLine ∧ wpJs PE ts (a ++ y) ρ1 R := rfl
/-! own lists -/
theorem v_lenO : (SE.lenO n : SE K).wp PE ρ Q = owp n ρ fun xs => Q (.int xs.length) ρ := by rw [w_SE_lenO]; exact owp_ex
theorem v_tupO : (SE.tupO n : SE K).wp PE ρ Q = owp n ρ fun xs => Q (.tup xs) ρ := by rw [w_SE_tupO]; exact owp_ex
theorem v_listO {R : List PV → Env → Prop} : (SN.listO n : SN K).wp PE ρ R = owp n ρ fun xs => R xs ρ := by rw [w_SN_listO]; exact owp_ex
theorem v_truO {R : Bool → Env → Prop} : (ST.truO n : ST K).wp PE ρ R = owp n ρ fun xs => R (!xs.isEmpty) ρ := by rw [w_ST_truO]; exact owp_ex
theorem v_eqEO {neg : Bool} : (SE.eqEO neg n : SE K).wp PE ρ Q = owp n ρ fun xs => Q (.bl (neg != xs.isEmpty)) ρ := by rw [w_SE_eqEO]; exact owp_ex
theorem v_append {s : SE K} : (SS.append n s).wp PE PD ρ = owp n ρ fun _ => s.wp PE ρ fun y ρ1 => owp n ρ1 fun xs => xs.length < sizeLine ∧ PD.nx (ρ1.set n (.own (xs ++ [y]))) := by
  rw [w_SS_append, ← owp_ex]; simp only [owp_ex]
theorem v_ixO {s : SE K} : (SE.ixO n s).wp PE ρ Q = owp n ρ fun _ => s.wp PE ρ fun y ρ1 => owp n ρ1 fun xs => asI y fun k => ∃ u, L2.atI xs k = some u ∧ Q u ρ1 := by
  rw [w_SE_ixO, ← owp_ex]; simp only [← owp_ex, asI]; congr; funext xs0; congr; congr; funext y ρ1; simp
theorem v_extendT {s : SE K} : (SS.extendT n s).wp PE PD ρ = owp n ρ fun _ => s.wp PE ρ fun y ρ1 => owp n ρ1 fun xs => asT y fun ys => xs.length + ys.length ≤ sizeLine ∧ PD.nx (ρ1.set n (.own (xs ++ ys))) := by
  rw [w_SS_extendT, ← owp_ex]; simp only [← owp_ex, asT]; congr; funext xs0; congr; congr; funext y ρ1; simp
theorem v_extendL {s : SE K} : (SS.extendL n s).wp PE PD ρ = owp n ρ fun _ => s.wp PE ρ fun y ρ1 => owp n ρ1 fun xs => asL y fun ys => xs.length + ys.length ≤ sizeLine ∧ PD.nx (ρ1.set n (.own (xs ++ ys))) := by
  rw [w_SS_extendL, ← owp_ex]; simp only [← owp_ex, asL]; congr; funext xs0; congr; congr; funext y ρ1; simp
theorem v_insert {s t : SE K} : (SS.insert n s t).wp PE PD ρ = owp n ρ fun _ => s.wp PE ρ fun y ρ1 => t.wp PE ρ1 fun z ρ2 => owp n ρ2 fun xs => asI y fun k => xs.length < sizeLine ∧ 0 ≤ k ∧ k < 2 ^ 63 ∧ PD.nx (ρ2.set n (.own (xs.take k.toNat ++ [z] ++ xs.drop k.toNat))) := by
  rw [w_SS_insert, ← owp_ex]; simp only [← owp_ex, asI]; congr; funext xs0; congr; congr; funext y ρ1; congr; funext z ρ2; simp
theorem v_setL {s t : SE K} : (SS.setL n s t).wp PE PD ρ = t.wp PE ρ fun z ρ1 => owp n ρ1 fun _ => s.wp PE ρ1 fun y ρ2 => owp n ρ2 fun xs => asI y fun m => ∃ j, ixN xs.length m = some j ∧ PD.nx (ρ2.set n (.own (xs.set j z))) := by
  rw [w_SS_setL]; simp only [← owp_ex, asI]; congr; funext z ρ1; congr; funext xs0; congr; congr; funext y ρ2; simp
theorem v_inO {neg : Bool} {s : SE K} : (SE.inO neg s n).wp PE ρ Q = s.wp PE ρ fun x ρ1 => ∃ (m : Str) (zs : List Str), x = .str m ∧ ρ1[n]? = some (.own (zs.map .str)) ∧ Q (.bl (neg != decide (m ∈ zs))) ρ1 := rfl
end
section
variable {P : PV → Env → Prop} {x : PV} {xs : List PV} {ds : List (Key × PV)} {ρ : Env} {s : Sl} {n : Nat} {R : List PV → Prop} {D : List (Key × PV) → Prop}
theorem v_v0 : vwp 0 (.val x :: ρ) P = P x (.val x :: ρ) := rfl
theorem v_v0o : vwp 0 (.own xs :: ρ) P = P (.lst xs) (.val (.lst xs) :: ρ) := rfl
theorem v_v0d : vwp 0 (.ownD ds :: ρ) P = P (.dic ds) (.val (.dic ds) :: ρ) := rfl
theorem v_vs : vwp (n + 1) (s :: ρ) P = vwp n ρ fun x ρ' => P x (s :: ρ') := by
  unfold vwp
  rw [List.getElem?_cons_succ]
  cases ρ[n]? with
  | none => rfl
  | some t => cases t <;> rfl
theorem v_o0 : owp 0 (.own xs :: ρ) R = R xs := rfl
theorem v_os : owp (n + 1) (s :: ρ) R = owp n ρ R := by unfold owp; rw [List.getElem?_cons_succ]
theorem v_d0 : dwp 0 (.ownD ds :: ρ) D = D ds := rfl
theorem v_ds : dwp (n + 1) (s :: ρ) D = dwp n ρ D := by unfold dwp; rw [List.getElem?_cons_succ]
end
section
variable {α : Type} {xs : List α} {i j : Int}
theorem sIx_of {n d : Nat} {i : Int} (h : 0 ≤ i) : HT.sIx n d (some i) = min i.toNat n := by
  unfold HT.sIx
  simp only []
  split <;> omega
theorem cutP_to (h : 0 ≤ i) : cutP xs none (some i) = xs.take i.toNat := by
  unfold cutP
  rw [sIx_of h]
  show (xs.drop 0).take (min i.toNat xs.length - 0) = _
  rw [List.drop_zero, Nat.sub_zero, Nat.min_comm, ← List.take_take]
  exact List.take_of_length_le (by rw [List.length_take]; omega)
theorem cutP_from (h : 0 ≤ i) : cutP xs (some i) none = xs.drop i.toNat := by
  unfold cutP
  rw [sIx_of h]
  show (xs.drop (min i.toNat xs.length)).take (xs.length - min i.toNat xs.length) = _
  by_cases hl : i.toNat ≤ xs.length
  · rw [Nat.min_eq_left hl, List.take_of_length_le (by simp)]
  · rw [Nat.min_eq_right (by omega), List.drop_length, List.drop_eq_nil_of_le (by omega)]; simp
end
theorem lc_strs {step : PV → Env → (Option PV → Env → Prop) → Prop} {ρ : Env} {P : List PV → Env → Prop} (f : Str → Str) {zs : List Str} (hs : ∀ z ∈ zs, ∀ k : Option PV → Env → Prop, k (some (.str (f z))) ρ → step (.str z) ρ k) (hl : zs.length ≤ sizeLine) (h : P ((zs.map f).map .str) ρ) : wpLc step (zs.map .str) [] ρ P := by
  refine lc_map (fun x => match x with | .str z => .str (f z) | y => y) (fun x hx k hk => ?_) (by simpa using hl) ?_
  · obtain ⟨z, hz, rfl⟩ := List.mem_map.mp hx
    exact hs z hz k hk
  · rw [List.nil_append, List.map_map, List.map_congr_left (g := fun z => PV.str (f z))]
    · rw [List.map_map] at h; exact h
    · intro z _; rfl
theorem rep_flat {α : Type} (x : α) : ∀ n : Nat, (List.replicate n [x]).flatten = List.replicate n x
  | 0 => rfl
  | n + 1 => by rw [List.replicate_succ, List.flatten_cons, rep_flat x n]; rfl
end Tw
set_option Elab.async false
set_option linter.all false
set_option maxRecDepth 100000
set_option maxHeartbeats 4000000
/-! rows of any items: where they cease to be the row of a wood -/
namespace Tw
open PySem PySem.Spec PyProof.Rows L2 TL
local macro_rules | `(tactic| walk_at "rd") => `(tactic| try simp only [o_op, o_un, o_var, o_c, o_cb, o_call, o_cons, o_nil, o_tup, o_lst, o_I0, o_I, o_int1, o_intb, o_abs, o_test, o_b, o_not, o_and, o_or, o_andV, o_orV, o_notV, o_ifE, o_isN, o_notN, o_eq, o_ne, o_seq, o_next, o_asg, o_name, o_sub, o_par, o_par3, o_drop, o_ret, o_retN, o_ifS, o_sl, o_noPart, o_part, o_bm, o_bm0, o_m0, o_m1, o_dget, o_dput, o_din, o_dnotin, o_listKeys, e_bl, e_int, e_str, e_some, e_two, e_three, o_for, o_lc, o_iList, o_iTup, o_iRng1, e_int1, e_ref, o_yes, o_wipe0, o_wipe1, o_disp, o_dnew, o_pairs0, o_pairs1, o_lock, o_keysM, o_gtup, o_gcons, o_gnil, o_rU, o_tru, o_revT, o_enumT, o_from, true_and, if_pos, List.getElem?_cons_zero, List.getElem?_cons_succ, List.set_cons_zero, List.set_cons_succ, List.append_nil])
/-- an item as an end -/
def endV : V → Option En
  | .str z => if endB z = true then some (decide (z.cps.toList.head? = some 43), cutS z (some 1) none) else none
  | _ => none
theorem endB_en {z : Str} (h : endB z = true) : ∃ e : En, z = en e ∧ IsName e.2 ∧ endV (.str z) = some e := by
  have h0 := h
  unfold endB at h
  obtain ⟨h1, h2⟩ := Bool.and_eq_true_iff.mp h
  rw [show ([V.str "+", V.str "-"] : List V) = (["+", "-"] : List Str).map V.str from rfl, inV_str] at h1
  have h3 : cutS z none (some 1) = ("+" : Str) ∨ cutS z none (some 1) = ("-" : Str) := by simpa using h1
  have key : ∃ b : Bool, z.cps.toList = (if b then 43 else 45) :: z.cps.toList.drop 1 := by
    rcases h3 with h3 | h3
    · refine ⟨true, ?_⟩
      have : z.cps.toList.take 1 = [43] := by rw [← cut0, h3]; decide +kernel
      cases hz : z.cps.toList with
      | nil => rw [hz] at this; cases this
      | cons c r => rw [hz] at this; simp at this; simp [this]
    · refine ⟨false, ?_⟩
      have : z.cps.toList.take 1 = [45] := by rw [← cut0, h3]; decide +kernel
      cases hz : z.cps.toList with
      | nil => rw [hz] at this; cases this
      | cons c r => rw [hz] at this; simp at this; simp [this]
  obtain ⟨b, hb⟩ := key
  refine ⟨(b, cutS z (some 1) none), str_ext ?_, name_of_B h2, ?_⟩
  · rw [en_codes, cut1]; exact hb
  · show (if endB z = true then _ else _) = _
    rw [if_pos h0, hb]
    cases b <;> rfl
theorem endV_str {z : Str} {e : En} (h : endV (.str z) = some e) : z = en e ∧ IsName e.2 ∧ endB z = true := by
  have h1 : (if endB z = true then some (decide (z.cps.toList.head? = some 43), cutS z (some 1) none) else none) = some e := h
  by_cases hb : endB z = true
  · obtain ⟨e2, a, b, c⟩ := endB_en hb
    rw [c] at h; cases h; exact ⟨a, b, hb⟩
  · rw [if_neg hb] at h1; cases h1
theorem endV_none {z : Str} (h : endV (.str z) = none) : endB z = false := by
  cases hb : endB z with
  | false => rfl
  | true => obtain ⟨e, _, _, c⟩ := endB_en hb; rw [c] at h; cases h
theorem endV_en {e : En} (h : IsName e.2) : endV (.str (en e)) = some e := by
  obtain ⟨e2, a, b, c⟩ := endB_en (en_end h)
  have : en e = en e2 → e = e2 := fun q => by
    have h1 := congrArg (fun s : Str => s.cps.toList) q
    simp only [en_codes] at h1
    obtain ⟨h2, h3⟩ := List.cons.inj h1
    obtain ⟨b1, n1⟩ := e
    obtain ⟨b2, n2⟩ := e2
    have hn : n1 = n2 := str_ext h3
    have hb : b1 = b2 := by
      cases b1 <;> cases b2 <;> first | rfl | (simp at h2)
    rw [hn, hb]
  rw [this a]; rw [this a] at c; exact c
/-- where it ceases, k items behind; seen: the names that began, st: those that are open, the outermost first -/
def plc : List (Option En) → Nat → List Str → List Str → Option Nat
  | [], k, _, st => if st = [] then none else some k
  | none :: _, k, _, _ => some k
  | some (true, n) :: r, k, seen, st => if n ∈ seen ∨ st.length = 100 then some k else plc r (k + 1) (seen ++ [n]) (st ++ [n])
  | some (false, n) :: r, k, seen, st => if st.getLast? = some n then plc r (k + 1) seen st.dropLast else some k
def oi : Option Nat → V
  | none => .non
  | some k => .int (k : Int)
/-! ### none: it is the row of a wood -/
/-- the ends that led to this state -/
def bak : List (Fo × Str) → Fo → List En
  | [], c => c.erow
  | (l, n) :: zs, c => bak zs l ++ (true, n) :: c.erow
def DpK : List (Fo × Str) → Fo → Prop
  | [], c => c.dp ≤ 100
  | (l, n) :: zs, c => c.dp + (zs.length + 1) ≤ 100 ∧ DpK zs l
theorem DpK.here : ∀ {zs : List (Fo × Str)} {c : Fo}, DpK zs c → c.dp + zs.length ≤ 100
  | [], c, h => h
  | (l, n) :: zs, c, h => h.1
theorem DpK.set : ∀ {zs : List (Fo × Str)} {c d : Fo}, DpK zs c → d.dp + zs.length ≤ 100 → DpK zs d
  | [], c, d, _, h => h
  | (l, n) :: zs, c, d, h, h2 => ⟨h2, h.2⟩
theorem erow_app : ∀ f g : Fo, (f.app g).erow = f.erow ++ g.erow
  | .nil, _ => rfl
  | .cons n ks r, g => by simp only [Fo.app, Fo.erow, erow_app r g, List.cons_append, List.append_assoc]
theorem dp_app : ∀ f g : Fo, (f.app g).dp = max f.dp g.dp
  | .nil, _ => by simp [Fo.app, Fo.dp]
  | .cons n ks r, g => by simp only [Fo.app, Fo.dp, dp_app r g]; omega
theorem bak_app : ∀ (zs : List (Fo × Str)) (c d : Fo), bak zs (c.app d) = bak zs c ++ d.erow
  | [], c, d => erow_app c d
  | (l, n) :: zs, c, d => by simp only [bak, erow_app, List.append_assoc, List.cons_append]
theorem plc_none : ∀ (es : List (Option En)) (k : Nat) (seen st : List Str) (zs : List (Fo × Str)) (c : Fo), plc es k seen st = none → st = zs.reverse.map (·.2) → DpK zs c → pls (bak zs c) = seen → seen.Nodup → zs.length ≤ 100 →
    ∃ f : Fo, bak zs c ++ es.filterMap id = f.erow ∧ es = (es.filterMap id).map some ∧ f.nm.Nodup ∧ f.dp ≤ 100
  | [], k, seen, st, zs, c, h, hst, hd, hp, hn, hl => by
    have h1 : st = [] := by
      by_cases e : st = []
      · exact e
      · simp only [plc, if_neg e] at h; cases h
    have hz : zs = [] := by
      rw [h1] at hst
      have := congrArg List.length hst
      simp at this; exact List.eq_nil_of_length_eq_zero this.symm
    subst hz
    refine ⟨c, by simp [bak], rfl, ?_, hd⟩
    rw [← pls_row]
    have : pls c.erow = seen := hp
    rw [this]; exact hn
  | none :: r, k, seen, st, zs, c, h, _, _, _, _, _ => by simp only [plc] at h; cases h
  | some (true, n) :: r, k, seen, st, zs, c, h, hst, hd, hp, hn, hl => by
    by_cases e : n ∈ seen ∨ st.length = 100
    · simp only [plc, if_pos e] at h; cases h
    · simp only [plc, if_neg e] at h
      have hsl : st.length = zs.length := by rw [hst]; simp
      have e1 : n ∉ seen := fun z => e (.inl z)
      have e2 : zs.length ≠ 100 := fun z => e (.inr (by omega))
      obtain ⟨f, h1, h2, h3, h4⟩ := plc_none r (k + 1) (seen ++ [n]) (st ++ [n]) ((c, n) :: zs) .nil h (by rw [hst]; simp) ⟨by simp only [Fo.dp]; omega, hd⟩ (by
        show pls (bak zs c ++ (true, n) :: Fo.nil.erow) = _
        rw [pls_app, hp]; rfl) (nodup_snoc hn e1) (by rw [List.length_cons]; omega)
      refine ⟨f, ?_, ?_, h3, h4⟩
      · rw [← h1]
        show bak zs c ++ (true, n) :: r.filterMap id = (bak zs c ++ (true, n) :: Fo.nil.erow) ++ r.filterMap id
        rw [List.append_assoc]; rfl
      · show some (true, n) :: r = some (true, n) :: (r.filterMap id).map some
        rw [← h2]
  | some (false, n) :: r, k, seen, st, zs, c, h, hst, hd, hp, hn, hl => by
    by_cases e : st.getLast? = some n
    · simp only [plc, if_pos e] at h
      cases zs with
      | nil => rw [hst] at e; simp at e
      | cons z zs =>
        obtain ⟨l, m⟩ := z
        have hm : m = n := by
          rw [hst] at e
          simpa using e
        subst hm
        have hdl := DpK.here hd.2
        obtain ⟨f, h1, h2, h3, h4⟩ := plc_none r (k + 1) seen st.dropLast zs (l.app (.cons m c .nil)) h (by rw [hst]; simp) (DpK.set hd.2 (by
          rw [dp_app]
          have := hd.1
          simp only [Fo.dp]; omega)) (by
          rw [bak_app, pls_app, ← hp]
          show _ = pls (bak zs l ++ (true, m) :: c.erow)
          rw [pls_app]
          have : pls (Fo.cons m c .nil).erow = pls ((true, m) :: c.erow) := by
            show pls ((true, m) :: (c.erow ++ (false, m) :: Fo.nil.erow)) = _
            have : (true, m) :: (c.erow ++ (false, m) :: Fo.nil.erow) = ((true, m) :: c.erow) ++ [(false, m)] := rfl
            rw [this, pls_app]
            show pls ((true, m) :: c.erow) ++ [] = _
            rw [List.append_nil]
          rw [this]) hn (by rw [List.length_cons] at hl; omega)
        refine ⟨f, ?_, ?_, h3, h4⟩
        · rw [← h1, bak_app]
          show (bak zs l ++ (true, m) :: c.erow) ++ (false, m) :: r.filterMap id = (bak zs l ++ (true, m) :: (c.erow ++ (false, m) :: [])) ++ r.filterMap id
          simp
        · show some (false, m) :: r = some (false, m) :: (r.filterMap id).map some
          rw [← h2]
    · simp only [plc, if_neg e] at h; cases h
/-- a row without a bad place -/
theorem row_of_plc {K : PySem.W.Frag} {H : Hp} {xs : List V} (hi : ∀ x ∈ xs, Itm K H x) (h : plc (xs.map endV) 0 [] [] = none) (hl : xs.length ≤ 2000) : ∃ f, xs = f.row.map V.str ∧ RowOk f := by
  obtain ⟨f, h1, h2, h3, h4⟩ := plc_none (xs.map endV) 0 [] [] [] .nil h rfl (by show (0 : Nat) ≤ 100; omega) rfl List.nodup_nil (Nat.zero_le _)
  have h1 : (xs.map endV).filterMap id = f.erow := h1
  rw [h1] at h2
  have hen : ∀ (xs : List V) (es : List En), xs.map endV = es.map some → xs = es.map (fun e => V.str (en e)) ∧ ∀ e ∈ es, IsName e.2 := by
    intro xs
    induction xs with
    | nil => intro es h; cases es with
      | nil => exact ⟨rfl, fun e h => by cases h⟩
      | cons e es => cases h
    | cons x xs ih =>
      intro es h
      cases es with
      | nil => cases h
      | cons e es =>
        obtain ⟨ha, hb⟩ := List.cons.inj h
        obtain ⟨i1, i2⟩ := ih es hb
        cases x with
        | str z =>
          obtain ⟨a, b, _⟩ := endV_str ha
          refine ⟨by rw [i1, a]; rfl, fun e' he => ?_⟩
          rcases List.mem_cons.mp he with he | he
          · rw [he]; exact b
          · exact i2 e' he
        | _ => cases ha
  obtain ⟨i1, i2⟩ := hen xs f.erow h2
  have hrow : xs = f.row.map V.str := by rw [i1, Fo.row_erow, List.map_map]; rfl
  refine ⟨f, hrow, h3, fun z hz => ?_, ?_, h4⟩
  · rw [← pls_row] at hz
    obtain ⟨e, he, rfl⟩ := List.mem_map.mp hz
    exact i2 e (List.mem_filter.mp he).1
  · have : xs.length = 2 * f.nm.length := by rw [hrow, List.length_map, row_len]
    omega
end Tw
set_option Elab.async false
set_option linter.all false
set_option maxRecDepth 100000
set_option maxHeartbeats 4000000
/-! the program's bad place of any row; wood_of, which may raise -/
namespace Tw
open PySem PySem.Spec PyProof.Rows L2 TL
local macro_rules | `(tactic| walk_at "rd") => `(tactic| try simp only [o_op, o_un, o_var, o_c, o_cb, o_call, o_cons, o_nil, o_tup, o_lst, o_I0, o_I, o_int1, o_intb, o_abs, o_test, o_b, o_not, o_and, o_or, o_andV, o_orV, o_notV, o_ifE, o_isN, o_notN, o_eq, o_ne, o_seq, o_next, o_asg, o_name, o_sub, o_par, o_par3, o_drop, o_ret, o_retN, o_ifS, o_sl, o_noPart, o_part, o_bm, o_bm0, o_m0, o_m1, o_dget, o_dput, o_din, o_dnotin, o_listKeys, e_bl, e_int, e_str, e_some, e_two, e_three, o_for, o_lc, o_iList, o_iTup, o_iRng1, e_int1, e_ref, o_yes, o_wipe0, o_wipe1, o_disp, o_dnew, o_pairs0, o_pairs1, o_lock, o_keysM, o_gtup, o_gcons, o_gnil, o_rU, o_tru, o_revT, o_enumT, o_from, true_and, if_pos, List.getElem?_cons_zero, List.getElem?_cons_succ, List.set_cons_zero, List.set_cons_succ, List.append_nil])
def sp_u_bad_placeG (K : PySem.W.Frag) : Sp := fun vs H Q _ => ∃ a xs, vs = [.ref a] ∧ SqT K H a xs ∧ (∀ x ∈ xs, Itm K H x) ∧ xs.length ≤ 2000 ∧ ∀ H', Kp H H' → Q (oi (plc (xs.map endV) 0 [] [])) H'
/-- what wood_of does of a value: not a tuple; a tuple -/
def sp_wood_ofG (K : PySem.W.Frag) (C : Addr) : Sp := fun vs H Q E => ∃ v, vs = [v] ∧
  (((∃ z : Str, v = .str z) ∨ Oth K H v) ∧ (∀ d, H d = none → E (.ref C) (some d) (upd H d (.xd [("place", .non)]))) ∨
   ∃ a xs, v = .ref a ∧ SqT K H a xs ∧ (∀ x ∈ xs, Itm K H x) ∧ xs.length ≤ 2000 ∧
    match plc (xs.map endV) 0 [] [] with
    | some k => ∀ d H1, Kp H H1 → H1 d = none → E (.ref C) (some d) (upd H1 d (.xd [("place", .int (k : Int))]))
    | none => ∀ p f H', Kp H H' → xs = f.row.map V.str → RowOk f → WoodAt K H' p f → Q (.ref p) H')
def t_wood_ofG (K : PySem.W.Frag) (C : Addr) (E : XK) : TS :=
  (tSeq (tIfS (tNot (tB (tIsi K "tuple" (tVar 0)))) (tRaise E (tMk1 C "place" (tC .non))) tNext)
  (tSeq (tAsg (tCall (sp_u_bad_placeG K) [] E0 (tCons (tVar 0) tNil)) (gName 1))
  (tSeq (tIfS (tB (tNotN (tVar 1))) (tRaise E (tMk1 C "place" (tVar 1))) tNext)
  (tRet (tCall (sp_unchecked_wood K) [] E0 (tCons (tVar 0) tNil))))))
section
variable {K : PySem.W.Frag}
theorem len_u_bad_placeG (vs : List V) (H : Hp) (Q : VK) (E : XK) (h : sp_u_bad_placeG K vs H Q E) : vs.length = 1 := by
  obtain ⟨_, _, rfl, _⟩ := h; rfl
theorem len_wood_ofG {C : Addr} (vs : List V) (H : Hp) (Q : VK) (E : XK) (h : sp_wood_ofG K C vs H Q E) : vs.length = 1 := by
  obtain ⟨_, rfl, _⟩ := h; rfl
theorem o_raise {E : XK} {t : L2.St → Hp → XK → Prop} {D : Ends} {σ : L2.St} {H : Hp} : tRaise E t D σ H = t σ H fun cls d H' => E cls d H' := rfl
theorem o_mk1 {C : Addr} {f : Str} {te : TE} {σ : L2.St} {H : Hp} {Q : XK} : tMk1 C f te σ H Q = te σ H fun v H1 => ∀ d, H1 d = none → Q (.ref C) (some d) (upd H1 d (.xd [(f, v)])) := rfl
theorem pure_wood_ofG {C : Addr} (vs : List V) (H : Hp) (Q : VK) (E : XK) (h : sp_wood_ofG K C vs H Q E) : t_wood_ofG K C E { nx := fun _ H' => Q .non H', rt := Q } (startN 2 vs) H := by
  obtain ⟨v, rfl, h⟩ := h
  show t_wood_ofG K C E _ [some v, none] H
  unfold t_wood_ofG
  rcases h with ⟨hv, q⟩ | ⟨a, xs, rfl, ha, hi, hl, q⟩
  · walk_at "rd"
    rcases hv with ⟨z, rfl⟩ | hv
    · refine o_isiTS ?_
      walk_at "rd"
      simp only [Bool.not_false, if_true]
      exact q
    · refine o_isiTO hv ?_
      walk_at "rd"
      simp only [Bool.not_false, if_true]
      exact q
  · walk_at "rd"
    refine o_isiT ha ?_
    walk_at "rd"
    simp only [Bool.not_true, Bool.false_eq_true, if_false]
    refine ⟨a, xs, rfl, ha, hi, hl, fun H1 k1 => ?_⟩
    walk_at "rd"
    cases hp : plc (xs.map endV) 0 [] [] with
    | some k =>
      rw [hp] at q
      simp only [oi]
      rw [o_raise, o_mk1]
      walk_at "rd"
      simpa using fun d hd => q d H1 k1 hd
    | none =>
      rw [hp] at q
      simp only [oi]
      walk_at "rd"
      obtain ⟨f, hf, ok⟩ := row_of_plc hi hp hl
      have ha1 := Tk.kp k1 _ _ ha
      rw [hf] at ha1
      simp only [decide_true, Bool.not_true, Bool.false_eq_true, if_false]
      exact ⟨a, f, rfl, .inr ha1, ok.ok, fun p H2 k2 hw => q p f H2 (fun b o e => k2 _ _ (k1 _ _ e)) hf ok hw⟩
theorem strs_opn (st : List Str) (i : Option Int) : True := trivial
theorem cut_none {xs : List V} (h : xs = []) : cutV xs (some (-1)) none = [] := by subst h; rfl
/-- xs[-1:] against [n], xs names -/
theorem last_eq {st : List Str} {n : Str} : PyData.eqv (.list ((st.drop (st.length - 1)).map PyData.str)) (.list [.str n]) = decide (st.getLast? = some n) := by
  rcases List.eq_nil_or_concat st with h | ⟨l, m, h⟩
  · subst h; simp [PyData.eqv, PyData.eqvAll]
  · subst h
    by_cases e : m = n
    · subst e; simp [PyData.eqv, PyData.eqvAll]
    · simp [PyData.eqv, PyData.eqvAll, e]
theorem cut_lastS (st : List Str) : cutV (st.map V.str) (some (-1)) none = (st.drop (st.length - 1)).map V.str := by
  rcases List.eq_nil_or_concat st with h | ⟨l, m, h⟩
  · subst h; rfl
  · subst h
    rw [List.concat_eq_append, List.map_append]
    show cutV (l.map V.str ++ [V.str m]) _ _ = _
    rw [cut_last]; simp
theorem dpAll_strs {H : Hp} : ∀ (l : List Str), DpAll K H (l.map V.str) (l.map PyData.str)
  | [] => .nil
  | s :: l => .cons (.str s) (dpAll_strs l)
theorem canLay_strs : ∀ {l : List Str}, (∀ z ∈ l, IsName z) → PyData.canLayAll0 (l.map PyData.str) = true
  | [], _ => by simp [PyData.canLayAll0]
  | s :: l, h => by
    have h1 := strOk_of (h s (List.mem_cons_self ..))
    have h2 := canLay_strs (l := l) fun z hz => h z (List.mem_cons_of_mem _ hz)
    simp [PyData.canLayAll0, PyData.canLay0, h1, h2]
/-- st[-1:] != [n], two lists just laid -/
theorem o_neLast {H : Hp} {Q : VK} {p1 p2 : Addr} {st : List Str} {n : Str} (h1 : H p1 = some (.lst ((st.drop (st.length - 1)).map V.str))) (h2 : H p2 = some (.lst [.str n])) (hst : ∀ z ∈ st, IsName z) (hn : IsName n) (q : Q (.bl (!decide (st.getLast? = some n))) H) :
    rNeB K (.ref p1) (.ref p2) H Q := by
  have hdr : ∀ z ∈ st.drop (st.length - 1), IsName z := fun z hz => hst z (List.mem_of_mem_drop hz)
  have hso := strOk_of hn
  refine ⟨.list ((st.drop (st.length - 1)).map PyData.str), .list [.str n], .lst (SqL.of h1) (dpAll_strs _), .lst (SqL.of h2) (.cons (.str n) .nil), ?_, ?_, ?_, ?_⟩
  · have := canLay_strs hdr
    simp only [PyData.canLay0]
    exact this
  · simp [PyData.canLay0, PyData.canLayAll0, hso]
  · simp [PyData.depth, PyData.depthAll]
  · rw [last_eq]; exact q
theorem pure_u_bad_placeG (vs : List V) (H : Hp) (Q : VK) (E : XK) (h : sp_u_bad_placeG K vs H Q E) : t_u_bad_place K { nx := fun _ H' => Q .non H', rt := Q } (startN 6 vs) H := by
  obtain ⟨a, xs, rfl, ha, hit, hlen, q⟩ := h
  show t_u_bad_place K _ [some (.ref a), none, none, none, none, none] H
  unfold t_u_bad_place
  have hz := sizeLine_eq
  walk_at "rd"
  intro sn hsn
  generalize hG : upd H sn _ = H1
  obtain ⟨k1, e1⟩ := gen_new hsn hG
  clear hG
  refine ⟨Nat.zero_le _, fun ar har => ?_⟩
  generalize hG : upd H1 ar _ = H2
  obtain ⟨k2, e2⟩ := gen_new har hG
  clear hG
  have k02 : Kp H H2 := fun b o e => k2 _ _ (k1 _ _ e)
  have hsa : sn ≠ ar := ne_of_none e1 har
  have arH : H ar = none := Kp.free k1 har
  walk_at "rd"
  refine ⟨a, xs, rfl, Tk.kp k02 _ _ ha, ?_⟩
  refine fb_walk (walk_enumT (xs := xs)) (fun i σ H3 => ∃ (seen st : List Str) (x y z : Option V), Kp H H3 ∧ H3 sn = some (.dK (kvs seen fun _ => .bl true)) ∧ H3 ar = some (.lst (st.map V.str)) ∧ plc (xs.map endV) 0 [] [] = plc ((xs.map endV).drop i) i seen st ∧ (∀ z ∈ st, IsName z) ∧ seen.length ≤ i ∧ st.length ≤ i ∧
    σ = [some (.ref a), some (.ref sn), some (.ref ar), x, y, z]) ?_ ?_ ?_ ?_
  · exact ⟨[], [], _, _, _, k02, k2 _ _ e1, e2, rfl, (fun z h => by cases h), Nat.le_refl _, Nat.le_refl _, rfl⟩
  · rintro i σ H3 _ ⟨seen, st, x, y, z, k3, _⟩
    exact Tk.kp k3 _ _ ha
  · rintro i v σ H3 H4 hi ⟨seen, st, x, y, z, k3, hs3, ha3, hp, hnm, hsl, hstl, rfl⟩ ⟨T, x', y', rfl, hT, eH, ex, ey⟩
    obtain rfl := Option.some.inj ex
    replace ey : xs[i]? = some y' := ey
    obtain ⟨k4, e4⟩ := gen_new hT eH.symm
    have hdr : (xs.map endV).drop i = endV y' :: (xs.map endV).drop (i + 1) := by
      have : (xs.map endV)[i]? = some (endV y') := by rw [List.getElem?_map, ey]; rfl
      exact drop_at this
    rw [hdr] at hp
    have hity := (hit y' (List.mem_of_getElem? ey)).kp (fun b o e => k4 _ _ (k3 _ _ e))
    walk_at "rd"
    refine ⟨T, _, rfl, SqT.of e4, rfl, _, _, rfl, _, _, rfl, rfl, ?_⟩
    unfold t_u_bad_place_b1
    walk_at "rd"
    have early : endV y' = none → ∀ H5, Kp H4 H5 → Q (.int (i : Int)) H5 := fun h H5 k5 => by
      have := q H5 fun b o e => k5 _ _ (k4 _ _ (k3 _ _ e))
      rw [hp, h] at this
      exact this
    rcases hity with ⟨z, rfl, hzl⟩ | hnt
    · refine ⟨_, rfl, .inl ⟨z, rfl, by omega, fun H5 k5 => ?_⟩⟩
      walk_at "rd"
      cases hev : endV (.str z) with
      | none =>
        rw [endV_none hev]
        simp only [Bool.not_false, if_true]
        exact early hev H5 k5
      | some e =>
        obtain ⟨rfl, hie, hb⟩ := endV_str hev
        rw [hb]
        simp only [Bool.not_true, Bool.false_eq_true, if_false]
        rw [hev] at hp
        have h8 := hie.eight
        refine ⟨en e, rfl, by rw [en_len]; omega, ?_⟩
        rw [en_cut1]
        refine o_ixS (by rw [en_len]; omega) (en_at0 e) ⟨rfl, ?_⟩
        have k35 : Kp H3 H5 := fun b o e => k5 _ _ (k4 _ _ e)
        have k05 : Kp H H5 := fun b o e => k35 _ _ (k3 _ _ e)
        have hs5 := k35 _ _ hs3
        have ha5 := k35 _ _ ha3
        obtain ⟨b, n⟩ := e
        cases b with
        | true =>
          refine ite2 (fun _ => ?_) fun h => absurd (by simpa using p43) h
          walk_at "rd"
          have hg := DGet.k (k := (Sum.inr n : Key)) hs5
          rw [valV_kvs] at hg
          simp only [plc] at hp
          by_cases hm : n ∈ seen
          · rw [if_pos hm] at hg
            refine ⟨sn, _, rfl, hg, ?_⟩
            simp only [Option.isSome_some, if_true]
            walk_at "rd"
            rw [if_pos (.inl hm)] at hp
            have := q H5 k05
            rw [hp] at this; exact this
          · rw [if_neg hm] at hg
            refine ⟨sn, none, rfl, hg, ?_⟩
            simp only [Option.isSome_none, Bool.false_eq_true, if_false]
            walk_at "rd"
            refine ⟨ar, _, rfl, .inl (SqL.of ha5), rfl, ?_⟩
            rw [List.length_map]
            by_cases h100 : st.length = 100
            · have : decide (V.int (st.length : Int) = V.int 100) = true := by rw [h100]; rfl
              rw [this]
              simp only [if_true]
              rw [if_pos (.inr h100)] at hp
              have := q H5 k05
              rw [hp] at this; exact this
            · have : decide (V.int (st.length : Int) = V.int 100) = false := by
                rw [decide_eq_false_iff_not]; intro z; have := V.int.inj z; omega
              rw [this]
              simp only [Bool.false_eq_true, if_false]
              rw [if_neg (fun h => h.elim hm h100)] at hp
              refine ⟨sn, _, rfl, DPut.k (k := (Sum.inr n : Key)) hs5 (by rw [kvs_len]; omega), ?_⟩
              rw [put_new _ _ _ _ hm]
              generalize hG : upd H5 sn _ = H6
              obtain ⟨k6, e6⟩ := gen_chg hG
              clear hG
              have ha6 := k6 _ _ ha5 hsa.symm
              refine ⟨.inl ⟨rfl, _, SqL.of ha6⟩, ar, _, _, rfl, rfl, ha6, by rw [List.length_map]; omega, ?_⟩
              generalize hG : upd H6 ar _ = H7
              obtain ⟨k7, e7⟩ := gen_chg hG
              clear hG
              refine ⟨seen ++ [n], st ++ [n], _, _, _, fun b o e => k7 _ _ (k6 _ _ (k05 _ _ e) (ne_of_none e hsn)) (ne_of_none e arH), ?_, by rw [e7]; simp, hp, fun z hz => ?_, by rw [List.length_append, List.length_singleton]; omega, by rw [List.length_append, List.length_singleton]; omega, rfl⟩
              · rw [k7 _ _ e6 hsa]
                congr 3
                funext m; split <;> rfl
              · rcases List.mem_append.mp hz with hz | hz
                · exact hnm z hz
                · rw [List.mem_singleton.mp hz]; exact hie
        | false =>
          refine ite2 (fun h => absurd (by simpa using h) p45) fun _ => ?_
          walk_at "rd"
          simp only [plc] at hp
          refine ⟨ar, _, rfl, SqL.of ha5, fun p1 hp1 => ?_⟩
          rw [cut_lastS]
          generalize hG : upd H5 p1 _ = H6
          obtain ⟨k6, e6⟩ := gen_new hp1 hG
          clear hG
          refine ⟨by show 1 ≤ sizeLine; omega, fun p2 hp2 => ?_⟩
          generalize hG : upd H6 p2 _ = H7
          obtain ⟨k7, e7⟩ := gen_new hp2 hG
          clear hG
          have k57 : Kp H5 H7 := fun b o e => k7 _ _ (k6 _ _ e)
          refine o_neLast (k7 _ _ e6) e7 hnm hie ?_
          walk_at "rd"
          by_cases hl : st.getLast? = some n
          · rw [if_pos hl] at hp
            rw [decide_eq_true hl]
            simp only [Bool.not_true, Bool.false_eq_true, if_false]
            have ha7 := k57 _ _ ha5
            obtain ⟨l, rfl⟩ : ∃ l, st = l ++ [n] := List.getLast?_eq_some_iff.mp hl
            rw [List.map_append] at ha7
            refine ⟨.inl ⟨rfl, _, SqL.of ha7⟩, ar, _, .str n, rfl, rfl, ha7, by simp, ?_⟩
            rw [List.map_singleton, List.dropLast_concat]
            generalize hG : upd H7 ar _ = H8
            obtain ⟨k8, e8⟩ := gen_chg hG
            clear hG
            rw [List.dropLast_concat] at hp
            rw [List.length_append, List.length_singleton] at hstl
            exact ⟨seen, l, _, _, _, fun b o e => k8 _ _ (k57 _ _ (k05 _ _ e)) (ne_of_none e arH), k8 _ _ (k57 _ _ hs5) hsa, e8, hp, fun z hz => hnm z (List.mem_append_left _ hz), by omega, by omega, rfl⟩
          · rw [if_neg hl] at hp
            rw [decide_eq_false hl]
            simp only [Bool.not_false, if_true]
            have := q H7 fun b o e => k57 _ _ (k05 _ _ e)
            rw [hp] at this; exact this
    · have hev : endV y' = none := by
        cases hnt with
        | oth h => cases h <;> rfl
        | tup h => rfl
      refine ⟨_, rfl, .inr ⟨hnt.noStr, ?_⟩⟩
      walk_at "rd"
      simp only [Bool.not_false, if_true]
      exact early hev H4 Kp.rfl'
  · rintro σ H3 ⟨seen, st, x, y, z, k3, hs3, ha3, hp, hnm, hsl, hstl, rfl⟩
    have hd : (xs.map endV).drop xs.length = [] := by rw [List.drop_eq_nil_iff, List.length_map]; exact Nat.le_refl _
    rw [hd] at hp
    simp only [plc] at hp
    walk_at "rd"
    refine ⟨!(st.map V.str).isEmpty, .inl ⟨_, SqL.of ha3, rfl⟩, ?_⟩
    have q3 := q H3 k3
    rw [hp] at q3
    cases st with
    | nil =>
      simp only [List.map_nil, List.isEmpty_nil, Bool.not_true, Bool.false_eq_true, if_false]
      rw [if_pos rfl] at q3
      exact q3
    | cons s st =>
      simp only [List.map_cons, List.isEmpty_cons, Bool.not_false, if_true]
      rw [if_neg (by simp)] at q3
      walk_at "rd"
      exact ⟨a, xs, rfl, .inr (Tk.kp k3 _ _ ha), q3⟩
end
end Tw
set_option Elab.async false
set_option linter.all false
set_option maxRecDepth 100000
set_option maxHeartbeats 4000000
/-! filled, wood_of of any value, plainly; the law k09 -/
namespace Tw
open PySem PySem.Spec PyProof.Rows L2
local macro_rules | `(tactic| walk_at "wp") => `(tactic| try simp (config := { maxSteps := 1000000 }) only [↓w_SE_var, ↓w_SE_non, ↓w_SE_bl, ↓w_SE_int, ↓w_SE_str, ↓w_SE_op, ↓w_SE_un, ↓w_SE_cb, ↓w_SE_tup, ↓w_SE_lst, ↓w_SE_ifE, ↓w_SE_isN, ↓w_SE_notN, ↓w_SA_nil, ↓w_SA_cons, ↓w_ST_not, ↓w_ST_and, ↓w_ST_or, ↓w_ST_yes, ↓w_ST_tru, ↓w_SG_name, ↓w_SS_next, ↓w_SS_brk, ↓w_SS_cont, ↓w_SS_never, ↓w_SS_seq, ↓w_SS_cut, ↓w_SS_asg, ↓w_SS_drop, ↓w_SS_ret, ↓w_SS_retN, ↓w_SS_ifS, ↓w_SS_for_, ↓w_SS_while_, ↓w_SN_lst, ↓w_SE_nl, ↓w_SS_own, ↓w_SN_lc, ↓w_SE_call, ↓w_SE_callS, ↓w_SE_pop, ↓w_SP__no, ↓w_SS_raise0, ↓w_SS_raise1, ↓w_SS_raise2, ↓w_SS_tryO, ↓w_SS_tryA, ↓w_SS_tryM, ↓w_SE_xf, ↓w_SE_isE, ↓w_SE_popAt, ↓w_SN_slO, ↓w_SN_sortedS, ↓w_SN_sortedI, ↓w_SS_asg2, ↓w_SS_par, ↓w_SE_joined, ↓w_SE_join, ↓w_SE_txtB, ↓w_SE_lenSetT, ↓w_SE_chain, ↓w_SO_inSign, ↓w_SO_eqE, ↓w_SB_all_, ↓w_SB_repr, ↓c_i0, ↓c_c0, ↓c_iC, ↓c_addS, ↓c_repS, ↓c_catT, ↓c_ixS, ↓c_ixT, ↓c_ixL, ↓c_eq_ii, ↓c_eq_ss, ↓c_eq_ns, ↓c_eq_sn, ↓c_eq_bb, ↓c_eq_nn, ↓c_eq_ni, ↓c_eq_in, ↓c_ne_ii, ↓c_ne_ss, ↓c_ne_bb, ↓c_ne_ns, ↓c_ne_sn, ↓c_ne_nn, ↓c_ne_ni, ↓c_ne_in, ↓c_inST, ↓c_inSL, ↓c_lenS, ↓c_lenQt, ↓c_lenQl, ↓c_abs, ↓c_int1i, ↓c_int1b, ↓c_tupl, ↓c_tupt, ↓c_max2, ↓c_min2, ↓c_neg, ↓c_tst, ↓c_asI, ↓c_asS, ↓c_asT, ↓c_asL, ↓c_asQl, ↓c_asQt, ↓o_tt, ↓o_ts, ↓o_tl, ↓o_ti, ↓o_st, ↓o_ss, ↓o_sl_, ↓o_si, ↓o_lt, ↓o_ls, ↓o_ll, ↓o_li, ↓o_it, ↓o_is, ↓o_il, ↓o_ii, ↓o_bt, ↓o_bs, ↓o_bl_, ↓o_bi, ↓o_nt, ↓o_ns, ↓o_nl, ↓o_ni, ↓o_dt, ↓o_ds, ↓o_dl, ↓o_di, ↓v_test, ↓v_b, ↓v_andV, ↓v_orV, ↓v_notV, ↓v_isi, ↓v_at, ↓v_slS, ↓v_slT, ↓v_slL, ↓v_listOf, ↓v_revL, ↓v_revT, ↓v_cat, ↓v_rep, ↓v_ilist, ↓v_itup, ↓v_istr, ↓v_enumL, ↓v_enumT, ↓v_rng1, ↓v_rng2, ↓c_rng1, ↓c_rng2, ↓v_zipA, ↓c_zipt, ↓c_zipl, ↓v_gtup, ↓c_unp, ↓v_gunl, ↓c_unpL, ↓v_fmt, ↓c_fmts, ↓c_fmti, ↓v_js, ↓v_lenO, ↓v_tupO, ↓v_listO, ↓v_truO, ↓v_eqEO, ↓v_append, ↓v_ixO, ↓v_extendT, ↓v_extendL, ↓v_insert, ↓v_setL, ↓v_inO, ↓v_v0, ↓v_v0o, ↓v_v0d, ↓v_vs, ↓v_o0, ↓v_os, ↓v_d0, ↓v_ds, tr_non, tr_bl, tr_int, tr_str, tr_tup, tr_lst, tr_dic, in_non, in_bl, in_int, in_str, in_tup, in_lst, in_dic, we_nil, we_cons, sl_name, sl_tup, sl_unl, sa_nil, sa_cons, pr_val, pr_own, st_app, st_nil, js_nil, ↓w_for0, ↓w_for1, List.getElem?_cons_zero, List.getElem?_cons_succ, List.set_cons_zero, List.set_cons_succ, List.length_cons, List.length_nil, List.replicate_succ, List.replicate_zero, if_true, Bool.not_true, Bool.not_false, Bool.false_eq_true, if_false, ite_true, ite_false, decide_true, decide_false, Nat.reduceSub, Nat.reduceAdd, Nat.zero_add, true_and, and_true])
def isTup : PV → Bool
  | .tup _ => true
  | _ => false
/-- a value that is no deck, in which no text is too long -/
def okv (x : PV) : Prop := x.tyN ≠ none ∧ ∀ z, x = .str z → z.length ≤ 1000
theorem tyN_some {x : PV} (h : x.tyN ≠ none) : ∃ t, x.tyN = some t ∧ kitB t "tuple" = some (isTup x) := by
  cases x <;> first | exact ⟨_, rfl, rfl⟩ | exact absurd rfl h
def tupsOf : PV → Int → Bool
  | .tup ys, n => decide ((ys.length : Int) = n) && ys.all isTup
  | _, _ => false
def psp_u_are_tuples : PSp := fun xs _ post => ∃ (v : PV) (n : Int), xs = [v, .int n] ∧ v.tyN ≠ none ∧ (∀ ys, v = .tup ys → ys.length ≤ 100000 ∧ ∀ y ∈ ys, y.tyN ≠ none) ∧ post (.bl (tupsOf v n))
def X_u_are_tuples (K : PySem.W.Frag) : SS K :=
  (SS.seq (SS.ifS (ST.or (ST.not (ST.b (SE.isi "tuple" (SE.var 0)))) (ST.test (SE.op SO.ne (SE.cb SB.lenQ (SA.cons (SE.var 0) SA.nil)) (SE.var 1)))) (SS.ret (SE.bl false)) SS.next)
  (SS.ret (SE.cb SB.all_ (SA.cons (SE.nl (SN.lc (SI.tup (SE.var 0)) (SG.name 2) ST.yes (SE.isi "tuple" (SE.var 2)))) SA.nil))))
theorem plain_u_are_tuples {K : PySem.W.Frag} (xs : List PV) (perr : PErr → Prop) (post : PV → Prop) (h : psp_u_are_tuples xs perr post) : (X_u_are_tuples K).wp (fun _ _ => False) { nx := fun _ => post .non, rt := post } (startE 3 xs) := by
  obtain ⟨v, n, rfl, hv, hy, h⟩ := h
  unfold X_u_are_tuples
  cases v with
  | deck => exact absurd rfl hv
  | tup ys =>
    obtain ⟨hl, hy⟩ := hy ys rfl
    walk_at "wp"
    by_cases hn : (ys.length : Int) = n
    · simp only [hn, decide_true, Bool.not_true, Bool.false_eq_true, if_false]
      refine lc_map (fun y => .bl (isTup y)) (fun y hm k hk => ?_) ?_ ⟨ys.map isTup, by simp, ?_⟩
      · unfold lcStep
        walk_at "wp"
        obtain ⟨t, h1, h2⟩ := tyN_some (hy y hm)
        exact ⟨t, _, h1, h2, hk⟩
      · have := sizeLine_eq; simp only [List.length_nil]; omega
      · have e : (ys.map isTup).all id = ys.all isTup := by simp [List.all_map]
        rw [e]; simpa [tupsOf, hn] using h
    · simp only [hn, decide_false, Bool.not_false, if_true]
      simpa [tupsOf, hn] using h
  | _ => walk_at "wp"; exact h
theorem len_u_are_tuples {K : PySem.W.Frag} (vs : List V) (H : Hp) (Q : VK) (E : XK) (h : spOf K psp_u_are_tuples vs H Q E) : vs.length = 2 := spOf_len (fun _ _ _ h => by obtain ⟨_, _, rfl, _⟩ := h; rfl) vs H Q E h
theorem pure_u_are_tuples {K : PySem.W.Frag} (vs : List V) (H : Hp) (Q : VK) (E : XK) (h : spOf K psp_u_are_tuples vs H Q E) : (X_u_are_tuples K).rd (fun _ => E0) { nx := fun _ H' => Q .non H', rt := Q } (startN 3 vs) H := SS.run0 _ plain_u_are_tuples vs H Q E h
end Tw
set_option Elab.async false
set_option linter.all false
set_option maxRecDepth 100000
set_option maxHeartbeats 4000000
/-! wood_of of any value, filled -/
namespace Tw
open PySem PySem.Spec PyProof.Rows L2
local macro_rules | `(tactic| walk_at "wp") => `(tactic| try simp (config := { maxSteps := 1000000 }) only [↓w_SE_var, ↓w_SE_non, ↓w_SE_bl, ↓w_SE_int, ↓w_SE_str, ↓w_SE_op, ↓w_SE_un, ↓w_SE_cb, ↓w_SE_tup, ↓w_SE_lst, ↓w_SE_ifE, ↓w_SE_isN, ↓w_SE_notN, ↓w_SA_nil, ↓w_SA_cons, ↓w_ST_not, ↓w_ST_and, ↓w_ST_or, ↓w_ST_yes, ↓w_ST_tru, ↓w_SG_name, ↓w_SS_next, ↓w_SS_brk, ↓w_SS_cont, ↓w_SS_never, ↓w_SS_seq, ↓w_SS_cut, ↓w_SS_asg, ↓w_SS_drop, ↓w_SS_ret, ↓w_SS_retN, ↓w_SS_ifS, ↓w_SS_for_, ↓w_SS_while_, ↓w_SN_lst, ↓w_SE_nl, ↓w_SS_own, ↓w_SN_lc, ↓w_SE_call, ↓w_SE_callS, ↓w_SE_pop, ↓w_SP__no, ↓w_SS_raise0, ↓w_SS_raise1, ↓w_SS_raise2, ↓w_SS_tryO, ↓w_SS_tryA, ↓w_SS_tryM, ↓w_SE_xf, ↓w_SE_isE, ↓w_SE_popAt, ↓w_SN_slO, ↓w_SN_sortedS, ↓w_SN_sortedI, ↓w_SS_asg2, ↓w_SS_par, ↓w_SE_joined, ↓w_SE_join, ↓w_SE_txtB, ↓w_SE_lenSetT, ↓w_SE_chain, ↓w_SO_inSign, ↓w_SO_eqE, ↓w_SB_all_, ↓w_SB_repr, ↓c_i0, ↓c_c0, ↓c_iC, ↓c_addS, ↓c_repS, ↓c_catT, ↓c_ixS, ↓c_ixT, ↓c_ixL, ↓c_eq_ii, ↓c_eq_ss, ↓c_eq_ns, ↓c_eq_sn, ↓c_eq_bb, ↓c_eq_nn, ↓c_eq_ni, ↓c_eq_in, ↓c_ne_ii, ↓c_ne_ss, ↓c_ne_bb, ↓c_ne_ns, ↓c_ne_sn, ↓c_ne_nn, ↓c_ne_ni, ↓c_ne_in, ↓c_inST, ↓c_inSL, ↓c_lenS, ↓c_lenQt, ↓c_lenQl, ↓c_abs, ↓c_int1i, ↓c_int1b, ↓c_tupl, ↓c_tupt, ↓c_max2, ↓c_min2, ↓c_neg, ↓c_tst, ↓c_asI, ↓c_asS, ↓c_asT, ↓c_asL, ↓c_asQl, ↓c_asQt, ↓o_tt, ↓o_ts, ↓o_tl, ↓o_ti, ↓o_st, ↓o_ss, ↓o_sl_, ↓o_si, ↓o_lt, ↓o_ls, ↓o_ll, ↓o_li, ↓o_it, ↓o_is, ↓o_il, ↓o_ii, ↓o_bt, ↓o_bs, ↓o_bl_, ↓o_bi, ↓o_nt, ↓o_ns, ↓o_nl, ↓o_ni, ↓o_dt, ↓o_ds, ↓o_dl, ↓o_di, ↓v_test, ↓v_b, ↓v_andV, ↓v_orV, ↓v_notV, ↓v_isi, ↓v_at, ↓v_slS, ↓v_slT, ↓v_slL, ↓v_listOf, ↓v_revL, ↓v_revT, ↓v_cat, ↓v_rep, ↓v_ilist, ↓v_itup, ↓v_istr, ↓v_enumL, ↓v_enumT, ↓v_rng1, ↓v_rng2, ↓c_rng1, ↓c_rng2, ↓v_zipA, ↓c_zipt, ↓c_zipl, ↓v_gtup, ↓c_unp, ↓v_gunl, ↓c_unpL, ↓v_fmt, ↓c_fmts, ↓c_fmti, ↓v_js, ↓v_lenO, ↓v_tupO, ↓v_listO, ↓v_truO, ↓v_eqEO, ↓v_append, ↓v_ixO, ↓v_extendT, ↓v_extendL, ↓v_insert, ↓v_setL, ↓v_inO, ↓v_v0, ↓v_v0o, ↓v_v0d, ↓v_vs, ↓v_o0, ↓v_os, ↓v_d0, ↓v_ds, tr_non, tr_bl, tr_int, tr_str, tr_tup, tr_lst, tr_dic, in_non, in_bl, in_int, in_str, in_tup, in_lst, in_dic, we_nil, we_cons, sl_name, sl_tup, sl_unl, sa_nil, sa_cons, pr_val, pr_own, st_app, st_nil, js_nil, ↓w_for0, ↓w_for1, List.getElem?_cons_zero, List.getElem?_cons_succ, List.set_cons_zero, List.set_cons_succ, List.length_cons, List.length_nil, List.replicate_succ, List.replicate_zero, if_true, Bool.not_true, Bool.not_false, Bool.false_eq_true, if_false, ite_true, ite_false, decide_true, decide_false, Nat.reduceSub, Nat.reduceAdd, Nat.zero_add, true_and, and_true])
def endP : PV → Option En
  | .str z => endV (.str z)
  | _ => none
def oiP : Option Nat → PV
  | none => .non
  | some k => .int (k : Int)
section
variable {K : PySem.W.Frag} {dk : Option Addr} {F : Addr → Prop} {H : Hp}
theorem okv_itm {v : V} {x : PV} (r : Rep K dk F H v x) (h : okv x) : Itm K H v ∧ endV v = endP x := by
  cases r with
  | str z => exact ⟨.inl ⟨z, rfl, h.2 z rfl⟩, rfl⟩
  | non => exact ⟨.inr (.oth .non), rfl⟩
  | bl b => exact ⟨.inr (.oth (.bl b)), rfl⟩
  | int i => exact ⟨.inr (.oth (.int i)), rfl⟩
  | tup s l => exact ⟨.inr (.tup s), rfl⟩
  | lst f e l => exact ⟨.inr (.oth (.lst e)), rfl⟩
  | dic f e l => exact ⟨.inr (.oth (.dic e)), rfl⟩
  | deck e => exact absurd rfl h.1
theorem okv_all : ∀ {vs : List V} {xs : List PV}, RepL K dk F H vs xs → (∀ x ∈ xs, okv x) → (∀ v ∈ vs, Itm K H v) ∧ vs.map endV = xs.map endP
  | _, _, .nil, _ => ⟨fun v h => (by cases h), rfl⟩
  | _, _, .cons a b, h => by
    obtain ⟨h1, h2⟩ := okv_itm a (h _ (List.mem_cons_self ..))
    obtain ⟨h3, h4⟩ := okv_all b fun x hx => h x (List.mem_cons_of_mem _ hx)
    refine ⟨fun v hv => ?_, by rw [List.map_cons, List.map_cons, h2, h4]⟩
    rcases List.mem_cons.mp hv with rfl | hv
    · exact h1
    · exact h3 v hv
end
def psp_u_bad_place : PSp := fun xs _ post => ∃ items : List PV, xs = [.tup items] ∧ (∀ x ∈ items, okv x) ∧ items.length ≤ 2000 ∧ post (oiP (plc (items.map endP) 0 [] []))
theorem hs_u_bad_place (K : PySem.W.Frag) : SpOk K (sp_u_bad_placeG K) psp_u_bad_place := by
  rintro dk F H vs xs perr post Q E s r ⟨items, rfl, hi, hl, h4⟩ q _
  cases r with
  | cons a b =>
    cases b
    cases a with
    | tup st l =>
      obtain ⟨h1, h2⟩ := okv_all l hi
      refine ⟨_, _, rfl, st, h1, by rw [l.len]; exact hl, fun H' k => ?_⟩
      rw [h2]
      refine q _ H' F _ (s.kp k) ?_ h4
      cases plc (items.map endP) 0 [] [] with
      | none => exact .non
      | some k => exact .int _
/-- wood_of of any value: what it raises, what it hands back -/
def psp_wood_of (C : Addr) : PSp := fun xs perr post => ∃ v : PV, xs = [v] ∧ v.tyN ≠ none ∧
  (((∀ items, v ≠ .tup items) ∧ perr (C, [("place", .non)])) ∨ ∃ items, v = .tup items ∧ (∀ x ∈ items, okv x) ∧ items.length ≤ 2000 ∧
    match plc (items.map endP) 0 [] [] with
    | some k => perr (C, [("place", .int (k : Int))])
    | none => ∀ g : Fo, items = g.row.map .str → RowOk g → post g.pv)
theorem strs_back {K : PySem.W.Frag} {dk : Option Addr} {F : Addr → Prop} {H : Hp} : ∀ {zs : List Str} {xs : List PV}, RepL K dk F H (zs.map V.str) xs → xs = zs.map .str
  | [], _, .nil => rfl
  | z :: zs, _, .cons a b => by cases a; rw [strs_back b]; rfl
/-- a bad place there is none: it is the row of a wood -/
theorem row_of_plcP {items : List PV} (hi : ∀ x ∈ items, okv x) (hl : items.length ≤ 2000) (h : plc (items.map endP) 0 [] [] = none) : ∃ g : Fo, items = g.row.map .str ∧ RowOk g := by
  have hall : ∀ x ∈ items, ∃ e, endP x = some e := by
    have key : ∀ (es : List (Option En)) k seen st, plc es k seen st = none → ∀ o ∈ es, ∃ e, o = some e := by
      intro es
      induction es with
      | nil => intro _ _ _ _ o ho; cases ho
      | cons x es ih =>
        intro k seen st h o ho
        cases x with
        | none => simp only [plc] at h; cases h
        | some e =>
          obtain ⟨b, n⟩ := e
          rcases List.mem_cons.mp ho with rfl | ho2
          · exact ⟨_, rfl⟩
          · cases b with
            | true =>
              simp only [plc] at h
              split at h
              · cases h
              · exact ih _ _ _ h o ho2
            | false =>
              simp only [plc] at h
              split at h
              · exact ih _ _ _ h o ho2
              · cases h
    intro x hx
    exact key _ _ _ _ h _ (List.mem_map_of_mem hx)
  have hstr : ∃ zs : List Str, items = zs.map .str := by
    clear h hl
    induction items with
    | nil => exact ⟨[], rfl⟩
    | cons x items ih =>
      obtain ⟨zs, rfl⟩ := ih (fun y hy => hi y (List.mem_cons_of_mem _ hy)) fun y hy => hall y (List.mem_cons_of_mem _ hy)
      obtain ⟨e, he⟩ := hall x (List.mem_cons_self ..)
      cases x with
      | str z => exact ⟨z :: zs, rfl⟩
      | _ => cases he
  obtain ⟨zs, rfl⟩ := hstr
  have e1 : ((zs.map PV.str).map endP) = (zs.map V.str).map endV := by rw [List.map_map, List.map_map]; rfl
  rw [e1] at h
  let K0 : PySem.W.Frag := []
  obtain ⟨g, hg, ok⟩ := row_of_plc (K := K0) (H := fun _ => none) (xs := zs.map V.str) (fun x hx => by
    obtain ⟨z, hz, rfl⟩ := List.mem_map.mp hx
    exact .inl ⟨z, rfl, (hi _ (List.mem_map_of_mem hz)).2 z rfl⟩) h (by simpa using hl)
  refine ⟨g, ?_, ok⟩
  have : zs = g.row := by
    have inj : ∀ a b : List Str, a.map V.str = b.map V.str → a = b := by
      intro a
      induction a with
      | nil => intro b h; cases b with | nil => rfl | cons _ _ => cases h
      | cons x a ih => intro b h; cases b with
        | nil => cases h
        | cons y b => rw [List.map_cons, List.map_cons] at h; obtain ⟨h1, h2⟩ := List.cons.inj h; rw [V.str.inj h1, ih b h2]
    exact inj _ _ hg
  rw [this]
def X_wood_of (K : PySem.W.Frag) (A_BadRow : Addr) : SS K :=
  (SS.seq (SS.ifS (ST.not (ST.b (SE.isi "tuple" (SE.var 0)))) (SS.raise1 A_BadRow "place" SE.non) SS.next)
  (SS.seq (SS.asg (SE.call (sp_u_bad_placeG K) psp_u_bad_place (hs_u_bad_place K) (SA.cons (SE.var 0) SA.nil)) (SG.name 1))
  (SS.seq (SS.ifS (ST.b (SE.notN (SE.var 1))) (SS.raise1 A_BadRow "place" (SE.var 1)) SS.next)
  (SS.ret (SE.call (sp_unchecked_wood K) psp_unchecked_wood (hs_unchecked_wood K) (SA.cons (SE.var 0) SA.nil))))))

def X_filled_b1 (K : PySem.W.Frag) (A_BadGaps A_BadRow : Addr) : SS K :=
  (SS.seq (SS.append 3 (SE.var 4))
  (SS.extendT 3 (SE.var 5)))
def X_filled_t1 (K : PySem.W.Frag) (A_BadGaps A_BadRow : Addr) : SS K :=
  (SS.ret (SE.callS (spOf K (psp_wood_of A_BadRow)) (psp_wood_of A_BadRow) (spOf_ok K (psp_wood_of A_BadRow)) (SA.cons (SE.tupO 3) SA.nil)))
def X_filled_h1 (K : PySem.W.Frag) (A_BadGaps A_BadRow : Addr) : SS K :=
  (SS.raise0 A_BadGaps)
def X_filled (K : PySem.W.Frag) (A_BadGaps A_BadRow : Addr) : SS K :=
  (SS.seq (SS.asg (SE.call (sp_row_of K) psp_row_of (hs_row_of K) (SA.cons (SE.var 0) SA.nil)) (SG.name 2))
  (SS.seq (SS.ifS (ST.not (ST.b (SE.call (spOf K psp_u_are_tuples) psp_u_are_tuples (spOf_ok K psp_u_are_tuples) (SA.cons (SE.var 1) (SA.cons (SE.op (SO.i0 fun i j => i + j) (SE.cb SB.lenQ (SA.cons (SE.var 2) SA.nil)) (SE.int 1)) SA.nil))))) (SS.raise0 A_BadGaps) SS.next)
  (SS.seq (SS.own 3 (SN.listOf (SE.op SO.ixT (SE.var 1) (SE.int 0))))
  (SS.seq (SS.for_ (SI.zipA (SE.var 2) (SE.slT (SE.var 1) (SP_.at_ (SE.int 1)) SP_.no)) (SG.tup [4, 5]) (X_filled_b1 K A_BadGaps A_BadRow))
  (SS.tryO A_BadRow (X_filled_t1 K A_BadGaps A_BadRow) (X_filled_h1 K A_BadGaps A_BadRow))))))


section
variable {K : PySem.W.Frag}
theorem plain_wood_of {A_BadRow : Addr} (xs : List PV) (perr : PErr → Prop) (post : PV → Prop) (h : psp_wood_of A_BadRow xs perr post) : (X_wood_of K A_BadRow).wp (fun _ => perr) { nx := fun _ => post .non, rt := post } (startE 2 xs) := by
  obtain ⟨v, rfl, hv, h⟩ := h
  unfold X_wood_of
  rcases h with ⟨hn, h⟩ | ⟨items, rfl, hi, hl, h⟩
  · cases v with
    | tup ys => exact absurd rfl (hn ys)
    | deck => exact absurd rfl hv
    | _ => walk_at "wp"; exact h
  · walk_at "wp"
    refine ⟨items, rfl, hi, hl, ?_⟩
    cases hp : plc (items.map endP) 0 [] [] with
    | some k =>
      rw [hp] at h
      show if (!PV.isN (PV.int k)) = true then _ else _
      walk_at "wp"
      exact h
    | none =>
      rw [hp] at h
      show if (!PV.isN PV.non) = true then _ else _
      walk_at "wp"
      obtain ⟨g, rfl, ok⟩ := row_of_plcP hi hl hp
      exact ⟨g, .inl rfl, ok.ok, h g rfl ok⟩
/-- what a filling makes of a row: the items, if there are as many gaps as told -/
def itemsOf : PV → List PV
  | .tup ys => ys
  | _ => []
def weave : List Str → List PV → List PV
  | e :: es, g :: gs => .str e :: (itemsOf g ++ weave es gs)
  | _, _ => []
def fillP (row : List Str) (v : PV) : Option (List PV) :=
  match v with
  | .tup (g :: gs) => if tupsOf v (row.length + 1) = true then some (itemsOf g ++ weave row gs) else none
  | _ => none
def psp_filled (C : Addr) : PSp := fun xs perr post => ∃ (f : Fo) (v : PV), xs = [f.pv, v] ∧ NameOk f ∧ v.tyN ≠ none ∧ (∀ ys, v = .tup ys → ys.length ≤ 100000 ∧ ∀ y ∈ ys, y.tyN ≠ none) ∧
  match fillP f.row v with
  | none => perr (C, [])
  | some items => items.length ≤ 2000 ∧ (∀ x ∈ items, okv x) ∧ match plc (items.map endP) 0 [] [] with
    | some _ => perr (C, [])
    | none => ∀ g : Fo, items = g.row.map .str → RowOk g → post g.pv
theorem weave_take : ∀ {row : List Str} {gs : List PV} {i : Nat} {e : Str} {g : PV}, row[i]? = some e → gs[i]? = some g → weave (row.take (i + 1)) (gs.take (i + 1)) = weave (row.take i) (gs.take i) ++ (.str e :: itemsOf g)
  | e' :: es, g' :: gs, 0, e, g, h1, h2 => by simp at h1 h2; subst h1 h2; simp [weave]
  | e' :: es, g' :: gs, i + 1, e, g, h1, h2 => by
    have := weave_take (row := es) (gs := gs) (i := i) (by simpa using h1) (by simpa using h2)
    simp only [List.take_succ_cons, weave, this, List.cons_append, List.append_assoc]
  | [], _, _, _, _, h1, _ => by simp at h1
  | _ :: _, [], _, _, _, _, h2 => by simp at h2
theorem weave_len_take (row : List Str) (gs : List PV) : ∀ i, (weave (row.take i) (gs.take i)).length ≤ (weave row gs).length := by
  intro i
  induction row generalizing gs i with
  | nil => simp [weave]
  | cons e es ih =>
    cases gs with
    | nil => simp [weave]
    | cons g gs =>
      cases i with
      | zero => simp [weave]
      | succ i => simp only [List.take_succ_cons, weave, List.length_cons, List.length_append]; have := ih gs i; omega
theorem plain_filled {A_BadGaps A_BadRow : Addr} (rr : PySem.W.exmOne K (.ref A_BadRow) (.ref A_BadRow) = some true) (xs : List PV) (perr : PErr → Prop) (post : PV → Prop) (h : psp_filled A_BadGaps xs perr post) : (X_filled K A_BadGaps A_BadRow).wp (fun _ => perr) { nx := fun _ => post .non, rt := post } (startE 6 xs) := by
  obtain ⟨f, v, rfl, hf, hv, hy, h⟩ := h
  have hz := sizeLine_eq
  have hrl := row_len f
  have hsz := hf.sz
  unfold X_filled
  walk_at "wp"
  refine ⟨f, rfl, hf.sz, hf.short, ?_⟩
  walk_at "wp"
  refine ⟨v, _, rfl, hv, hy, _, rfl, ?_⟩
  rw [List.length_map]
  cases ht : tupsOf v (f.row.length + 1) with
  | false =>
    walk_at "wp"
    have : fillP f.row v = none := by
      unfold fillP
      cases v with
      | tup ys => cases ys with
        | nil => rfl
        | cons g gs => simp only [ht, Bool.false_eq_true, if_false]
      | _ => rfl
    rw [this] at h; exact h
  | true =>
    cases v with
    | tup ys =>
      cases ys with
      | nil => simp [tupsOf] at ht; omega
      | cons g gs =>
        have hfp : fillP f.row (.tup (g :: gs)) = some (itemsOf g ++ weave f.row gs) := by
          show (if _ then _ else _) = _
          rw [if_pos ht]
        rw [hfp] at h
        obtain ⟨hl, hi, h⟩ := h
        rw [List.length_append] at hl
        have ht2 : (gs.length = f.row.length) ∧ isTup g = true ∧ ∀ y ∈ gs, isTup y = true := by
          simp only [tupsOf, Bool.and_eq_true, decide_eq_true_eq, List.all_cons, List.all_eq_true, List.length_cons] at ht
          exact ⟨by omega, ht.2.1, ht.2.2⟩
        obtain ⟨hgl, hg, hgs⟩ := ht2
        obtain ⟨g0, rfl⟩ : ∃ g0, g = .tup g0 := by cases g <;> first | exact ⟨_, rfl⟩ | cases hg
        walk_at "wp"
        refine ⟨.tup g0, atI_nat (j := 0) rfl, g0, .inr rfl, ?_⟩
        have hcut : cutP (PV.tup g0 :: gs) (some 1) none = gs := by simp [cutP, HT.sIx]
        rw [hcut]
        refine for_inv (fun i ρ => ∃ x4 x5, ρ = [Sl.val f.pv, Sl.val (.tup (.tup g0 :: gs)), Sl.val (sT f.row), Sl.own (g0 ++ weave (f.row.take i) (gs.take i)), x4, x5]) ⟨.no, .no, by simp [weave, itemsOf]⟩ ?_ ?_
        · rintro i x ρ k hx ⟨x4, x5, rfl⟩ hk
          rw [List.getElem?_map, Option.map_eq_some_iff] at hx
          obtain ⟨⟨e, y⟩, hxy, rfl⟩ := hx
          obtain ⟨h1, h2⟩ := List.getElem?_zip_eq_some.mp hxy
          rw [List.getElem?_map, Option.map_eq_some_iff] at h1
          obtain ⟨z, hz1, rfl⟩ := h1
          obtain ⟨ws, rfl⟩ : ∃ ws, y = .tup ws := by
            have := hgs y (List.mem_of_getElem? h2)
            cases y <;> first | exact ⟨_, rfl⟩ | cases this
          unfold X_filled_b1
          walk_at "wp"
          have hw := weave_take hz1 h2
          have hlen := weave_len_take f.row gs (i + 1)
          rw [hw] at hlen
          simp only [List.length_append, List.length_cons, itemsOf] at hlen hl
          refine ⟨?_, ?_, ?_⟩
          · simp only [List.length_append]; omega
          · simp only [List.length_append, List.length_cons, List.length_nil]; omega
          · refine hk _ ⟨.val (.str z), .val (.tup ws), ?_⟩
            rw [hw]
            simp only [List.append_assoc, List.cons_append, List.nil_append, itemsOf]
        · rintro ρ ⟨x4, x5, rfl⟩
          have e1 : (zipP (f.row.map PV.str) gs).length = f.row.length := by simp [hgl]
          rw [e1, List.take_length, ← hgl, List.take_length]
          simp only [itemsOf] at hi h hl
          unfold X_filled_t1 X_filled_h1
          walk_at "wp"
          refine ⟨_, rfl, by simp [PV.tyN], .inr ⟨_, rfl, hi, by rw [List.length_append]; exact hl, ?_⟩⟩
          cases hp : plc ((g0 ++ weave f.row gs).map endP) 0 [] [] with
          | some k =>
            rw [hp] at h
            exact ⟨true, rr, fun _ => h, fun z => by cases z⟩
          | none =>
            rw [hp] at h
            exact h
    | _ => cases ht
theorem len_wood_ofP {C : Addr} (vs : List V) (H : Hp) (Q : VK) (E : XK) (h : spOf K (psp_wood_of C) vs H Q E) : vs.length = 1 := spOf_len (fun _ _ _ h => by obtain ⟨_, rfl, _⟩ := h; rfl) vs H Q E h
theorem len_filled {C : Addr} (vs : List V) (H : Hp) (Q : VK) (E : XK) (h : spOf K (psp_filled C) vs H Q E) : vs.length = 2 := spOf_len (fun _ _ _ h => by obtain ⟨_, _, rfl, _⟩ := h; rfl) vs H Q E h
theorem pure_wood_ofP {C : Addr} (vs : List V) (H : Hp) (Q : VK) (E : XK) (h : spOf K (psp_wood_of C) vs H Q E) : (X_wood_of K C).rd (fun _ => E) { nx := fun _ H' => Q .non H', rt := Q } (startN 2 vs) H := SS.run _ plain_wood_of vs H Q E h
theorem pure_filled {C D : Addr} (rr : PySem.W.exmOne K (.ref D) (.ref D) = some true) (vs : List V) (H : Hp) (Q : VK) (E : XK) (h : spOf K (psp_filled C) vs H Q E) : (X_filled K C D).rd (fun _ => E) { nx := fun _ H' => Q .non H', rt := Q } (startN 6 vs) H := SS.run _ (plain_filled rr) vs H Q E h
end
/-! ### a wood parted is filled again -/
theorem fill_gaps (S : List Str) : ∀ (es : List En) (cur : List Str), ∃ (g : List Str) (gs : List (List Str)), gapL S es cur = g :: gs ∧ gs.length = (es.filter fun e => decide (e.2 ∈ S)).length ∧
    g.map PV.str ++ weave ((es.filter fun e => decide (e.2 ∈ S)).map en) (gs.map fun g => sT g) = (cur ++ es.map en).map PV.str
  | [], cur => ⟨cur, [], rfl, rfl, by simp [weave]⟩
  | e :: es, cur => by
    by_cases h : e.2 ∈ S
    · obtain ⟨g, gs, h1, h2, h3⟩ := fill_gaps S es []
      refine ⟨cur, g :: gs, by rw [gapL_cons, if_pos h, h1], by simp [h, h2], ?_⟩
      rw [List.filter_cons, if_pos (by simpa using h), List.map_cons, List.map_cons]
      show cur.map PV.str ++ (.str (en e) :: (itemsOf (sT g) ++ weave _ _)) = _
      have : itemsOf (sT g) = g.map PV.str := rfl
      rw [this, h3]
      simp
    · obtain ⟨g, gs, h1, h2, h3⟩ := fill_gaps S es (cur ++ [en e])
      refine ⟨g, gs, by rw [gapL_cons, if_neg h, h1], by simp [h, h2], ?_⟩
      rw [List.filter_cons, if_neg (by simpa using h), h3]
      simp
theorem fillP_skel (f : Fo) (S : List Str) : fillP (f.skel S).row (gpv (gapL S f.erow [])) = some (f.row.map .str) := by
  obtain ⟨g, gs, h1, h2, h3⟩ := fill_gaps S f.erow []
  rw [Fo.row_erow, Fo.erow_skel, h1]
  have hl : ((f.erow.filter fun e => decide (e.2 ∈ S)).map en).length = gs.length := by rw [List.length_map, h2]
  unfold fillP
  have ht : tupsOf (gpv (g :: gs)) (((f.erow.filter fun e => decide (e.2 ∈ S)).map en).length + 1) = true := by
    rw [hl]
    simp only [gpv, tupsOf, List.length_map, List.length_cons, Bool.and_eq_true, decide_eq_true_eq, List.all_eq_true, List.mem_map]
    refine ⟨by simp, ?_⟩
    rintro x ⟨y, _, rfl⟩; rfl
  show (if tupsOf (gpv (g :: gs)) _ = true then _ else _) = _
  rw [if_pos ht, Fo.row_erow]
  have : itemsOf (sT g) = g.map PV.str := rfl
  rw [this, h3]; rfl
/-! ### which rows are good -/
theorem plc_run : ∀ (f : Fo) (es : List (Option En)) (k : Nat) (seen st : List Str), f.nm.Nodup → (∀ n ∈ f.nm, n ∉ seen) → f.dp + st.length ≤ 100 → plc (f.erow.map some ++ es) k seen st = plc es (k + f.erow.length) (seen ++ f.nm) st
  | .nil, es, k, seen, st, _, _, _ => by simp [Fo.erow, Fo.nm]
  | .cons n ks r, es, k, seen, st, nd, hd, hp => by
    have nd' : n ∉ ks.nm ++ r.nm ∧ (ks.nm ++ r.nm).Nodup := List.nodup_cons.mp nd
    obtain ⟨n1, n2⟩ := nd'
    obtain ⟨k1, k2, k3⟩ := List.nodup_append.mp n2
    simp only [Fo.dp] at hp
    have hn : n ∉ seen := hd n (List.mem_cons_self ..)
    simp only [Fo.erow, List.map_cons, List.map_append, List.cons_append, List.append_assoc]
    rw [plc, if_neg (by rintro (h | h); exact hn h; omega)]
    rw [plc_run ks _ (k + 1) (seen ++ [n]) (st ++ [n]) k1 (fun m hm => by
      rw [List.mem_append, List.mem_singleton]
      rintro (h | rfl)
      · exact hd m (List.mem_cons_of_mem _ (List.mem_append_left _ hm)) h
      · exact n1 (List.mem_append_left _ hm)) (by rw [List.length_append, List.length_singleton]; omega)]
    rw [plc, if_pos (by simp), List.dropLast_concat]
    rw [plc_run r es _ _ st k2 (fun m hm => by
      rw [List.mem_append, List.mem_append, List.mem_singleton]
      rintro ((h | rfl) | h)
      · exact hd m (List.mem_cons_of_mem _ (List.mem_append_right _ hm)) h
      · exact n1 (List.mem_append_right _ hm)
      · exact k3 m h m hm rfl) (by omega)]
    simp only [Fo.nm, List.length_cons, List.length_append]
    rw [List.append_assoc, List.append_assoc]
    congr 1
    omega
theorem row_endP {f : Fo} (hn : ∀ z ∈ f.nm, IsName z) : (f.row.map PV.str).map endP = f.erow.map some := by
  rw [Fo.row_erow, List.map_map, List.map_map]
  refine List.map_congr_left fun e he => ?_
  exact endV_en (hn _ (erow_nm f e he))
theorem plc_good {f : Fo} (nd : f.nm.Nodup) (hn : ∀ z ∈ f.nm, IsName z) (hd : f.dp ≤ 100) : plc ((f.row.map PV.str).map endP) 0 [] [] = none := by
  rw [row_endP hn]
  have := plc_run f [] 0 [] [] nd (fun _ _ => by simp) (by simpa using hd)
  rw [List.append_nil] at this
  rw [this]; rfl
theorem okv_row {f : Fo} (hn : ∀ z ∈ f.nm, IsName z) : ∀ x ∈ f.row.map PV.str, okv x := by
  intro x hx
  obtain ⟨z, hz, rfl⟩ := List.mem_map.mp hx
  rw [Fo.row_erow] at hz
  obtain ⟨e, he, rfl⟩ := List.mem_map.mp hz
  have := (hn _ (erow_nm f e he)).eight
  refine ⟨fun h => (by cases h), fun z h => ?_⟩
  cases h
  rw [en_len]; omega
/-! ### a row is that of one wood -/
theorem erow_inj : ∀ (f g : Fo) (es es' : List En), (es = [] ∨ ∃ n r, es = (false, n) :: r) → (es' = [] ∨ ∃ n r, es' = (false, n) :: r) → f.erow ++ es = g.erow ++ es' → f = g ∧ es = es'
  | .nil, .nil, es, es', _, _, h => ⟨rfl, h⟩
  | .nil, .cons n ks r, es, es', h1, _, h => by
    rcases h1 with rfl | ⟨m, q, rfl⟩ <;> simp [Fo.erow] at h
  | .cons n ks r, .nil, es, es', _, h2, h => by
    rcases h2 with rfl | ⟨m, q, rfl⟩ <;> simp [Fo.erow] at h
  | .cons n ks r, .cons m ls q, es, es', h1, h2, h => by
    simp only [Fo.erow, List.cons_append, List.append_assoc, List.cons.injEq, Prod.mk.injEq, true_and] at h
    obtain ⟨rfl, h⟩ := h
    obtain ⟨rfl, h3⟩ := erow_inj ks ls _ _ (.inr ⟨_, _, rfl⟩) (.inr ⟨_, _, rfl⟩) h
    obtain ⟨rfl, h4⟩ := erow_inj r q es es' h1 h2 (List.cons.inj h3).2
    exact ⟨rfl, h4⟩
theorem en_inj {a b : En} (h : en a = en b) : a = b := by
  have h1 := congrArg (fun s : Str => s.cps.toList) h
  simp only [en_codes] at h1
  obtain ⟨h2, h3⟩ := List.cons.inj h1
  obtain ⟨b1, n1⟩ := a
  obtain ⟨b2, n2⟩ := b
  have hn : n1 = n2 := str_ext h3
  have hb : b1 = b2 := by
    cases b1 <;> cases b2 <;> first | rfl | (simp at h2)
  rw [hn, hb]
theorem map_inj {α β : Type} {f : α → β} (hf : ∀ a b, f a = f b → a = b) : ∀ {a b : List α}, a.map f = b.map f → a = b
  | [], [], _ => rfl
  | [], _ :: _, h => by cases h
  | _ :: _, [], h => by cases h
  | x :: a, y :: b, h => by
    rw [List.map_cons, List.map_cons] at h
    obtain ⟨h1, h2⟩ := List.cons.inj h
    rw [hf _ _ h1, map_inj hf h2]
theorem row_inj {f g : Fo} (h : f.row = g.row) : f = g := by
  rw [Fo.row_erow, Fo.row_erow] at h
  have he : f.erow = g.erow := map_inj (fun a b => en_inj) h
  exact (erow_inj f g [] [] (.inl rfl) (.inl rfl) (by simpa using he)).1
theorem strs_inj {a b : List Str} (h : a.map PV.str = b.map PV.str) : a = b := map_inj (fun x y h => PV.str.inj h) h
/-- a wood is filled again -/
theorem filled_back {A : Addr} {f : Fo} {S : List Str} {perr : PErr → Prop} {post : PV → Prop} (hf : RowOk f) (h : post f.pv) : psp_filled A [(f.skel S).pv, gpv (gapL S f.erow [])] perr post := by
  have hl := row_len f
  have hsz := hf.sz
  have hgl := gapL_len S f.erow []
  have hel : f.erow.length = f.row.length := by rw [Fo.row_erow, List.length_map]
  refine ⟨_, _, rfl, hf.ok.skel S, by simp [gpv, PV.tyN], fun ys hy => ?_, ?_⟩
  · cases hy
    refine ⟨by rw [List.length_map]; omega, fun y hy => ?_⟩
    obtain ⟨g, _, rfl⟩ := List.mem_map.mp hy
    simp [PV.tyN]
  · rw [fillP_skel]
    refine ⟨by rw [List.length_map]; omega, okv_row hf.nms, ?_⟩
    rw [plc_good hf.nd hf.nms hf.dp]
    intro g hg _
    rw [← row_inj (strs_inj hg)]; exact h
/-! ### comprehensions that many laws have -/
theorem vwp_set {i : Nat} {ρ : Env} {x : PV} {P : PV → Env → Prop} (h : i < ρ.length) : vwp i (ρ.set i (.val x)) P = P x (ρ.set i (.val x)) := by
  unfold vwp
  rw [List.getElem?_set_self h]
theorem set_no {i : Nat} {ρ : Env} {x : Sl} (h : ρ[i]? = some .no) : (ρ.set i x).set i .no = ρ := by
  rw [List.set_set]
  apply List.ext_getElem?
  intro j
  rw [getE_set]
  by_cases e : i = j
  · subst e
    rw [if_pos rfl, h, if_pos (List.getElem?_eq_some_iff.mp h).1]
  · rw [if_neg e]
/-- [end[1:] for end in row if end[0] == "+"] -/
theorem lc_beginsP {K : PySem.W.Frag} {i : Nat} {PE : PEK} {f : Fo} {ρ : Env} {P : List PV → Env → Prop} (hi : ρ[i]? = some .no) (hn : ∀ z ∈ f.nm, IsName z) (hl : f.nm.length ≤ 1000) (h : P (f.nm.map .str) ρ) :
    wpLc (lcStep (SG.name i) (ST.test (SE.op SO.eq (SE.op SO.ixS (SE.var i) (SE.int 0)) (SE.str "+"))) (SE.slS (SE.var i) (SP_.at_ (SE.int 1)) SP_.no) PE (K := K)) (f.row.map .str) [] ρ P := by
  have hz := sizeLine_eq
  have hlen := (List.getElem?_eq_some_iff.mp hi).1
  have hrl := row_len f
  refine lc_fm (fun x => match x with | .str z => (if z.cps.toList.head? = some 43 then some (.str (cutS z (some 1) none)) else none) | _ => none) (fun x hx k hk => ?_) (by rw [List.length_map]; simp; omega) ?_
  · obtain ⟨z, hzm, rfl⟩ := List.mem_map.mp hx
    rw [Fo.row_erow] at hzm
    obtain ⟨e, he, rfl⟩ := List.mem_map.mp hzm
    have h8 := (hn _ (erow_nm f e he)).eight
    have hel : (en e).length ≤ sizeLine := by rw [en_len]; omega
    unfold lcStep
    walk_at "wp"
    rw [vwp_set hlen]
    walk_at "wp"
    refine ⟨hel, _, en_at0 e, ?_⟩
    rw [vwp_set hlen]
    obtain ⟨b, n⟩ := e
    have hw : wipeE (ρ.set i (.val (.str (en (b, n))))) [i] = ρ := set_no hi
    cases b with
    | true =>
      have e1 : decide ((⟨#[43]⟩ : Str) = "+") = true := by decide +kernel
      simp only [if_true, e1]
      walk_at "wp"
      refine ⟨hel, ?_⟩
      rw [set_no hi]
      have : (en (true, n)).cps.toList.head? = some 43 := by rw [en_codes]; rfl
      simp only [this, if_true] at hk
      exact hk
    | false =>
      have e1 : decide ((⟨#[45]⟩ : Str) = "+") = false := by decide +kernel
      simp only [Bool.false_eq_true, if_false, e1]
      walk_at "wp"
      rw [set_no hi]
      have : (en (false, n)).cps.toList.head? = some 45 := by rw [en_codes]; rfl
      simp only [this] at hk
      exact hk
  · have : (f.row.map PV.str).filterMap (fun x => match x with | .str z => (if z.cps.toList.head? = some 43 then some (PV.str (cutS z (some 1) none)) else none) | _ => none) = f.nm.map .str := by
      rw [Fo.row_erow, ← pls_row f, List.map_map]
      induction f.erow with
      | nil => rfl
      | cons e es ih =>
        obtain ⟨b, n⟩ := e
        rw [List.map_cons, List.filterMap_cons]
        cases b with
        | true =>
          have h1 : (en (true, n)).cps.toList.head? = some 43 := by rw [en_codes]; rfl
          have h2 : cutS (en (true, n)) (some 1) none = n := en_cut1 (true, n)
          simp only [Function.comp, h1, if_true, h2, ih]
          rfl
        | false =>
          have h1 : (en (false, n)).cps.toList.head? = some 45 := by rw [en_codes]; rfl
          simp only [Function.comp, h1, ih]
          rfl
    rw [List.nil_append, this]; exact h
end Tw
set_option Elab.async false
set_option linter.all false
set_option maxRecDepth 100000
set_option maxHeartbeats 4000000
/-! classes of errors over any base (ValueError, LookupError) with an __init__ that stores: made where nothing is handled -/
namespace Tw
open PySem PySem.Spec PyProof.Rows L2
/-- own classes, and then the base's row -/
def owns (tl : List Value) : List Value → Bool
  | .ref _ :: rest => owns tl rest
  | rest => rest == tl
/-- what a base is good for -/
structure BaseOk (B newId initId : String) (tl : List Value) : Prop where
  fx : ExcBaseFacts B newId initId tl
  pas : ∀ self, PySem.refuseLoop self "__setattr__" tl = pure ()
  obj : tl.contains (.type "object") = true
  ty : ∃ n r, tl = .type n :: r
theorem owns_split (tl : List Value) : ∀ l : List Value, owns tl l = true → (∃ c r, l = .ref c :: r ∧ owns tl r = true) ∨ l = tl
  | .ref c :: r, e => .inl ⟨c, r, rfl, e⟩
  | [], e | .none :: _, e | .ellipsis :: _, e | .notImplemented :: _, e | .bool _ :: _, e | .int _ _ :: _, e | .float _ _ :: _, e | .str _ _ :: _, e | .bytes _ _ :: _, e | .type _ :: _, e | .builtin _ :: _, e => .inr (beq_iff_eq.mp e)
section
variable {B newId initId : String} {tl : List Value}
theorem owns_pass (b : BaseOk B newId initId tl) (me : Value) {l : List Value} (e : owns tl l = true) : PySem.refuseLoop me "__setattr__" l = pure () := by
  induction l with
  | nil =>
    rcases owns_split tl _ e with ⟨c, r, z, _⟩ | z
    · cases z
    · rw [z]; exact b.pas me
  | cons x l ih =>
    rcases owns_split tl _ e with ⟨c, r, z, h⟩ | z
    · cases z
      rw [PySem.refuseLoop_ref]
      exact ih h
    · rw [z]; exact b.pas me
theorem owns_has (b : BaseOk B newId initId tl) (T : String) {l : List Value} (e : owns tl l = true) : l.contains (.type T) = tl.contains (.type T) := by
  induction l with
  | nil =>
    rcases owns_split tl _ e with ⟨c, r, z, _⟩ | z
    · cases z
    · rw [z]
  | cons x l ih =>
    rcases owns_split tl _ e with ⟨c, r, z, h⟩ | z
    · cases z
      rw [List.contains_cons, ih h]
      rfl
    · rw [z]
theorem owns_some (b : BaseOk B newId initId tl) {l : List Value} (e : owns tl l = true) : l.isEmpty = false := by
  cases l with
  | cons _ _ => rfl
  | nil =>
    rcases owns_split tl _ e with ⟨c, r, z, _⟩ | z
    · cases z
    · obtain ⟨n, r, h⟩ := b.ty
      rw [h] at z; cases z
end
theorem baseVE : BaseOk "ValueError" "ValueError.__new__" "ValueError.__init__" [.type "ValueError", .type "Exception", .type "BaseException", .type "object"] := ⟨F.excBase_ValueError, F.store_ValueError.passes, by decide +kernel, _, _, rfl⟩
theorem baseLE : BaseOk "LookupError" "LookupError.__new__" "LookupError.__init__" [.type "LookupError", .type "Exception", .type "BaseException", .type "object"] := ⟨F.excBase_LookupError, F.store_LookupError.passes, by decide +kernel, _, _, rfl⟩
/-- what the written part says of such a class -/
structure OexG (K : PySem.W.Frag) (C : Addr) (newId : String) (tl : List Value) : Prop where
  cls : ∃ nm qn N bs bm sn sub ab col dd k0 k1 k2 k3 k5, K.lookup C = some (excClassObj nm qn C N bs bm true sn sub ab col dd k0 k1 k2 k3 k5 newId) ∧ owns tl bm = true
  sa : PySem.W.findIn K (.ref C) "__setattr__" = some (some (.builtin "object.__setattr__"))
  exC : PySem.W.subIn K (.ref C) (.type "BaseException") = some true
  tyC : PySem.W.typeIn K (.ref C) = some (.type "type")
  kC : PySem.W.keepIn K (.ref C) = true
end Tw
namespace TwSt
open PySem PySem.W PySem.Calls PyProof.Rows PySem.HandSPX Builtin Builtin.ObjectAttr
section
variable {P : Program} {wd : World} {Ar : Around} {Rs : Result → Shared → Prop} {h1 : Heap} {gs : Array GenState} {dr : Drawn} {n1 : Nat} {osx : OsState} {B newId initId : String} {tl : List Value}
/-- the first field of an error, as object.__setattr__ stores it -/
theorem put_new {K : W.Frag} {nm : Str} {tkn : Tok} {val : Value} {ob C : Addr} {flds : Array Value} {cdat : ClassData} (b : Tw.BaseOk B newId initId tl) (KX : K.In h1) (ho : h1.get? ob = some { cls := .ref C, data := .fields flds }) (hcl : W.clsIn K C = some cdat) (hmr : Tw.owns tl cdat.mro = true)
    (hdd : cdat.hasDict = true) (hna : W.findIn K (.ref C) nm = some none)
    (goal : ∀ h2 tkn' dx, (∀ q o, q ≠ ob → h1.get? q = some o → h2.get? q = some o) → h1.objs.size ≤ dx → dx ≠ ob → h2.get? ob = some { cls := .ref C, dict := some dx, data := .fields flds } → h2.Ns1 dx (fun y => if y = nm then some val else none) → Rs (.ok (.ret .none)) ⟨h2, gs, dr, tkn', osx⟩) :
    codeAny (model P wd) Ar (.call (.builtin "object.__setattr__") ⟨[.ref ob, .str nm tkn, val], []⟩) Rs ⟨h1, gs, dr, n1, osx⟩ := by
  have inst : W.InstAt h1 ob { cls := .ref C, data := .fields flds } C none := ⟨ho, rfl, rfl, trivial⟩
  have hobj : cdat.mro.contains (.type "object") = true := (Tw.owns_has b "object" hmr).trans b.obj
  have hlt : ob ≠ h1.objs.size := Nat.ne_of_lt (Heap.lt_size ho)
  have isob : W.Looks (model P wd) h1 (isInstance (.ref ob) (.type "object")) true := inst.type.andThen (W.looks_mroIn KX (by unfold W.mroIn; rw [hcl, Option.bind_some, if_neg (by rw [Tw.owns_some b hmr]; decide), hobj]))
  refine codeAny_call_builtin F.store_object.slot.plain F.store_object.entry (@W.check_slot (model P wd) _ _ ⟨h1, gs, dr, n1, osx⟩ "object.__setattr__" "object" "__setattr__" (.ref ob) [.str nm tkn, val] [] _ F.store_object.kind F.store_object.split isob (F.store_object.args (.ref ob) (.str nm tkn) val) ?_)
  have lm : W.Looks (model P wd) h1 (mroOf (.ref C)) cdat.mro := (W.looks_clsIn KX hcl).andThen .now
  have l3 : W.Looks (model P wd) h1 (storeTaker? none) none := .now
  have lc : W.Looks (model P wd) h1 (classData C) cdat := W.looks_clsIn KX hcl
  rw [W.osa_eq, refuse_eq]
  refine wpAny_bind (wpAny_bind (inst.type.at (wpAny_bind (lm.at ?_))))
  rw [Tw.owns_pass b _ hmr]
  refine wpAny_pure (wpAny_bind (inst.type.at (wpAny_bind ((W.looks_findIn KX hna).at (wpAny_bind (l3.at ?_))))))
  show wpAny _ _ (storeInOwnDict (.ref ob) (.ref C) (.str nm tkn) nm val false) _ _ _
  obtain ⟨cn, cb, cm, cns, cq, ch, csn, csb, cab, ccol, cdel⟩ := cdat
  dsimp only at hdd
  subst hdd
  unfold storeInOwnDict ownDictForStores
  repeat (first | with_reducible refine HandSPX.store_in_new ?_ ?_ | with_reducible refine wpAny_loadPart_at ho ?_ | with_reducible refine lc.at ?_ | wp_step)
  · exact ⟨_, #[], _, (Heap.get?_update_ne _ _ _ _ hlt.symm).trans (Heap.get?_push_at rfl rfl), rfl, fun e he => absurd he (by simp), fun _ => rfl⟩
  · intro h2 tkn' hn hsb
    have hx2 : (h1.push { cls := .type "dict", data := .dict #[] }).get? ob = some { cls := .ref C, data := .fields flds } := Heap.get?_push_of_some _ ho
    refine goal h2 tkn' h1.objs.size (fun q o hq hqo => ?_) (Nat.le_refl _) hlt.symm ?_ hn
    · exact (hsb.2 q (Nat.ne_of_lt (Heap.lt_size hqo))).trans ((Heap.get?_update_ne _ _ _ _ hq).trans (Heap.get?_push_of_some _ hqo))
    · exact (hsb.2 ob hlt).trans (Heap.get?_update_self _ hx2 rfl)
/-- a further field -/
theorem put_more {K : W.Frag} {nm : Str} {tkn : Tok} {val : Value} {ob C dx : Addr} {flds : Array Value} {cdat : ClassData} {m0 : Str → Option Value} {nl : List Str} (b : Tw.BaseOk B newId initId tl) (KX : K.In h1) (ho : h1.get? ob = some { cls := .ref C, dict := some dx, data := .fields flds }) (hns : h1.Ns1 dx m0)
    (hw : Within m0 nl) (hz : nl.length ≤ 1000) (hcl : W.clsIn K C = some cdat) (hmr : Tw.owns tl cdat.mro = true) (hdd : cdat.hasDict = true) (hna : W.findIn K (.ref C) nm = some none)
    (goal : ∀ h2 tkn', (∀ q o, q ≠ dx → h1.get? q = some o → h2.get? q = some o) → h2.Ns1 dx (fun y => if y = nm then some val else m0 y) → Rs (.ok (.ret .none)) ⟨h2, gs, dr, tkn', osx⟩) :
    codeAny (model P wd) Ar (.call (.builtin "object.__setattr__") ⟨[.ref ob, .str nm tkn, val], []⟩) Rs ⟨h1, gs, dr, n1, osx⟩ := by
  obtain ⟨oD, esD, epD, hoD, hdD, _⟩ := hns.count hw
  have inst : W.InstAt h1 ob { cls := .ref C, dict := some dx, data := .fields flds } C (some oD) := ⟨ho, rfl, rfl, hoD⟩
  have hobj : cdat.mro.contains (.type "object") = true := (Tw.owns_has b "object" hmr).trans b.obj
  have isob : W.Looks (model P wd) h1 (isInstance (.ref ob) (.type "object")) true := inst.type.andThen (W.looks_mroIn KX (by unfold W.mroIn; rw [hcl, Option.bind_some, if_neg (by rw [Tw.owns_some b hmr]; decide), hobj]))
  refine codeAny_call_builtin F.store_object.slot.plain F.store_object.entry (@W.check_slot (model P wd) _ _ ⟨h1, gs, dr, n1, osx⟩ "object.__setattr__" "object" "__setattr__" (.ref ob) [.str nm tkn, val] [] _ F.store_object.kind F.store_object.split isob (F.store_object.args (.ref ob) (.str nm tkn) val) ?_)
  have lm : W.Looks (model P wd) h1 (mroOf (.ref C)) cdat.mro := (W.looks_clsIn KX hcl).andThen .now
  have l3 : W.Looks (model P wd) h1 (storeTaker? none) none := .now
  have lc : W.Looks (model P wd) h1 (classData C) cdat := W.looks_clsIn KX hcl
  rw [W.osa_eq, refuse_eq]
  refine wpAny_bind (wpAny_bind (inst.type.at (wpAny_bind (lm.at ?_))))
  rw [Tw.owns_pass b _ hmr]
  refine wpAny_pure (wpAny_bind (inst.type.at (wpAny_bind ((W.looks_findIn KX hna).at (wpAny_bind (l3.at ?_))))))
  show wpAny _ _ (storeInOwnDict (.ref ob) (.ref C) (.str nm tkn) nm val false) _ _ _
  obtain ⟨cn, cb, cm, cns, cq, ch, csn, csb, cab, ccol, cdel⟩ := cdat
  dsimp only at hdd
  subst hdd
  unfold storeInOwnDict ownDictForStores
  repeat (first | with_reducible refine PySem.OEX.store_in_old hns hw hz ?_ | with_reducible refine wpAny_loadPart_at ho ?_ | with_reducible refine lc.at ?_ | wp_step)
  intro h2 tkn' hn hsb
  exact goal h2 tkn' (fun q o hq hqo => (hsb.2 q hq).trans hqo) hn
end
end TwSt
set_option Elab.async false
set_option linter.all false
set_option maxRecDepth 100000
set_option maxHeartbeats 4000000
/-! errors over any base: self.f = e, C(e, ..) -/
namespace Tw
open PySem PySem.Spec PyProof.Rows L2
section
variable {X : Cx} {pins : List (Addr × Obj)} {σ : L2.St} {H : Hp} {s : Shared} {a C dx : Addr} {f : Str} {y : V} {u : Value} {fs : List (Str × V)} {Q : Unit → Shared → Prop} {E : Value → Shared → Prop} {A : Around} {B newId initId : String} {tl : List Value}
theorem clsIn_of {K : PySem.W.Frag} {nm qn : Str} {N : Addr} {bs bm : List Value} {sn : List Str} {sub : List Value} {ab : Bool} {col : Option Bool} {dd : Option Addr} {k0 k1 k2 k3 k5 : Option Value} (h : K.lookup C = some (excClassObj nm qn C N bs bm true sn sub ab col dd k0 k1 k2 k3 k5 newId)) :
    ∃ cd, PySem.W.clsIn K C = some cd ∧ cd.mro = .ref C :: bm ∧ cd.hasDict = true := by
  refine ⟨{ name := nm, bases := bs, mro := .ref C :: bm, ns := N, qualname := qn, hasDict := true, slotNames := sn, subclasses := sub, abstract := ab, collection := col, hasDel := false }, ?_, rfl, rfl⟩
  unfold PySem.W.clsIn
  rw [h] <;> rfl
theorem osg_new (b : BaseOk B newId initId tl) (T : OexG X.K C newId tl) (I : Inv X pins σ H s) (e : H a = some (exo a C none)) (hno : PySem.W.findIn X.K (.ref C) f = some none) (ry : RelV y u)
    (h : ∀ dx s', H dx = none → dx ≠ a → Inv X pins σ (upd (upd H dx (exd dx [(f, y)])) a (exo a C (some dx))) s' → Q () s') : wpAny (model X.prog X.w) A (setAttr (.ref a) f u) Q E s := by
  obtain ⟨_, _, _, _, bm, _, _, _, _, _, _, _, _, _, _, hC, hbm⟩ := T.cls
  obtain ⟨cd, hcl, hmr, hdd⟩ := clsIn_of hC
  obtain ⟨t1, ho⟩ := exo_at I.hok e
  obtain ⟨hp, g, d, t, os⟩ := s
  refine PySem.W.set_plain I.kIn (ox := { cls := .ref C, dict := none, data := .fields #[.ref t1, .none, .none, .none, .bool false, .none] }) (od := none) ⟨ho, rfl, rfl, trivial⟩ T.sa ?_
  refine TwSt.put_new b I.kIn ho hcl (by rw [hmr]; exact hbm) hdd hno fun h2 tk dx kp dn dne hx hn => ?_
  have free : H dx = none := I.hok.fresh dn
  have far : ∀ {q : Addr} {o : Obj}, hp.get? q = some o → q ≠ dx := fun {q o} z => Nat.ne_of_lt (Nat.lt_of_lt_of_le (Heap.lt_size z) dn)
  have off : ∀ {q : Addr}, H q = none → q ≠ a := fun {q} n z => by rw [z, e] at n; cases n
  have U : Un X.fs [] H (upd (upd H dx (exd dx [(f, y)])) a (exo a C (some dx))) hp h2 := by
    refine ⟨fun q o z n _ _ => kp q o (off n) z, fun q o z n _ _ => ⟨o.slots, kp q o (off n) z⟩, fun q o z n _ => ?_, fun q o z _ => ?_, fun q xs z => ?_, fun q o v z => ?_, fun q ps z => ⟨#[], ?_⟩⟩
    · rw [upd_ne (off n), upd_ne (far z)]; exact n
    · by_cases hq : q = a
      · rw [hq]; exact ⟨_, hx⟩
      · exact ⟨o, kp q o hq z⟩
    · rw [upd_ne (at_ne e z exo_tup), upd_ne (ne_of_none z free)]; exact z
    · rw [upd_ne (at_ne e z exo_frz), upd_ne (ne_of_none z free)]; exact z
    · rw [upd_ne (at_ne e z exo_tbl), upd_ne (ne_of_none z free), z]; simp
  refine h dx _ free dne (I.un (t' := tk) U fun q o z => ?_)
  by_cases hq : q = a
  · subst hq
    rw [upd_same] at z; cases z
    exact exo_ok hx
  · rw [upd_ne hq] at z
    by_cases hd : q = dx
    · subst hd
      rw [upd_same] at z; cases z
      exact exd_ok hn (relO_put (fs := []) ry fun _ => True.intro)
    · rw [upd_ne hd] at z
      refine (I.hok q o z).stay (fun c v hc w => kp c v ?_ w) (fun c hc => ?_) fun c xs hc => ?_
      · rcases hc with hc | hc
        · rw [hc]; exact hq
        · exact at_ne e hc exo_own
      · rw [upd_ne (at_ne e hc exo_own), upd_ne (ne_of_none hc free)]; exact hc
      · rw [upd_ne (at_ne e hc exo_tup), upd_ne (ne_of_none hc free)]; exact hc
theorem osg_more (b : BaseOk B newId initId tl) (T : OexG X.K C newId tl) (I : Inv X pins σ H s) (e : H a = some (exo a C (some dx))) (ed : H dx = some (exd dx fs)) (hl : fs.length ≤ 900) (hno : PySem.W.findIn X.K (.ref C) f = some none) (ry : RelV y u)
    (h : ∀ s', Inv X pins σ (upd H dx (exd dx ((f, y) :: fs))) s' → Q () s') : wpAny (model X.prog X.w) A (setAttr (.ref a) f u) Q E s := by
  obtain ⟨_, _, _, _, bm, _, _, _, _, _, _, _, _, _, _, hC, hbm⟩ := T.cls
  obtain ⟨cd, hcl, hmr, hdd⟩ := clsIn_of hC
  obtain ⟨t1, ho⟩ := exo_at I.hok e
  obtain ⟨mA, hns, rel⟩ := exd_at I.hok ed
  obtain ⟨hp, g, d, t, os⟩ := s
  obtain ⟨oD, _, _, hoD, _, _⟩ := hns.count (within_of rel)
  refine PySem.W.set_plain I.kIn (ox := { cls := .ref C, dict := some dx, data := .fields #[.ref t1, .none, .none, .none, .bool false, .none] }) (od := some oD) ⟨ho, rfl, rfl, hoD⟩ T.sa ?_
  refine TwSt.put_more b I.kIn ho hns (within_of rel) (by rw [List.length_map]; omega) hcl (by rw [hmr]; exact hbm) hdd hno fun h2 tk kp hn => ?_
  refine h _ (I.write (t' := tk) (x := dx) (e := dx) (o := exd dx ((f, y) :: fs)) (by rw [ed]; exact True.intro) (.inl rfl) kp ?_ (exd_ok hn (relO_put ry rel)))
  obtain ⟨o, _, _, z, _⟩ := hn
  exact ⟨o, z⟩
end
/-- self.f = e -/
def tOsg (K : PySem.W.Frag) (newId : String) (tl : List Value) (f : Str) (to te : TE) : TS := fun D σ H => te σ H fun y H1 => to σ H1 fun x H2 => ∃ a C : Addr, x = .ref a ∧ OexG K C newId tl ∧ PySem.W.findIn K (.ref C) f = some none ∧
  ((H2 a = some (exo a C none) ∧ ∀ dx, H2 dx = none → dx ≠ a → D.nx σ (upd (upd H2 dx (exd dx [(f, y)])) a (exo a C (some dx)))) ∨
   ∃ (dx : Addr) (fs : List (Str × V)), H2 a = some (exo a C (some dx)) ∧ H2 dx = some (exd dx fs) ∧ fs.length ≤ 900 ∧ D.nx σ (upd H2 dx (exd dx ((f, y) :: fs))))
section
variable {X : Cx} {o e : Expr} {es : List Expr} {to te : TE} {ta : TA} {f : Str} {p p' pos : Pos} {B newId initId : String} {tl : List Value}
theorem ps_osg (b : BaseOk B newId initId tl) (ho : PE X o to) (he : PE X e te) (hs : swapsWith e (some (.Attribute o f p')) pos.line X.env = pure false := by rfl) : PS X (.Assign [.Attribute o f p'] e pos) (tOsg X.K newId tl f to te) := by
  refine ⟨fun pins s σ H D I h => ?_⟩
  refine plainObj_wpAny_Assign_Attribute (thn (he.run pins s σ H _ I h) ?_) hs
  rintro v s1 ⟨y, H1, I1, r1, q1⟩
  refine thn (ho.run pins s1 σ H1 _ I1 q1) ?_
  rintro u s2 ⟨x, H2, I2, r2, a, C, rfl, T, hno, q⟩
  obtain rfl : u = Value.ref a := r2
  rcases q with ⟨ea, q⟩ | ⟨dx, fs, ea, ed, hl, q⟩
  · exact osg_new b T I2 ea hno r1 fun dx s' n ne J => ⟨σ, _, J, q dx n ne⟩
  · exact osg_more b T I2 ea ed hl hno r1 fun s' J => ⟨σ, _, J, q⟩
/-- C(e, ..), C with an __init__ that keeps sp; its context is None -/
theorem pmk5_osg (b : BaseOk B newId initId tl) {CX : CXT} {x : Str} {C fI : Addr} {k : Nat} {fd : FuncData} {ps : List Str} {sp : Sp} (T : OexG X.K C newId tl) (iC : PySem.W.findIn X.K (.ref C) "__init__" = some (some (.ref fI))) (tI : PySem.W.typeIn X.K (.ref fI) = some (.type "function"))
    (F1 : FnOk X.prog X.w X.K X.mg X.base CX k fI fd ps sp) (hr : Room (k + 1) X.A) (hb : Binds X.K fd ps []) (hx : Passes CX X (fun _ _ _ => False)) (hg : Gl X x) (hm : X.mg x = some (.ref C)) (ha : PA X (e :: es) ta)
    (hdb : (x == ("__debug__" : Str)) = false := by decide) (he : starEach (e :: es) X.env = (false, eval e X.env) :: starEach es X.env := by rfl) (hpl : (backTo pos (starEach es X.env)).any (·.1) = false := by rfl) :
    L2H.PMk5 X (.Call (.Name x p) (e :: es) [] pos) (tMkO C sp [] ta) := by
  intro pins s σ H Q I h
  obtain ⟨_, _, _, _, bm, _, _, _, _, _, _, _, _, _, _, hC, hbm⟩ := T.cls
  refine wpAny_Call_Name_kw (ld_glob I hg hm ?_ hdb)
  refine PySem.W.callWith_K (h₀ := X.base) I.ok.mod.kin T.kC (thn (ha.run pos pins s σ H _ I h) ?_) he hpl
  rintro us s1 ⟨vs, H1, I1, r1, hz, q1⟩
  refine ⟨I1.kIn, ?_⟩
  show wpAny _ _ (call (.ref C) us) _ _ _
  obtain ⟨hp, g, dr, tk, os⟩ := s1
  have up : hp.objs.size ≤ hp.objs.size + 1 := Nat.le_succ _
  have hq := q1 (hp.objs.size + 1) (I1.hok.fresh up)
  rw [List.append_nil] at hq
  have kept : ∀ q o, hp.get? q = some o → ((hp.push (PySem.W.kdv_tup us)).push (PySem.HandSPX.excO C hp.objs.size)).get? q = some o := fun q o z => Heap.get?_push_of_some _ (Heap.get?_push_of_some _ z)
  have at1 : ((hp.push (PySem.W.kdv_tup us)).push (PySem.HandSPX.excO C hp.objs.size)).get? (hp.objs.size + 1) = some (PySem.HandSPX.excO C hp.objs.size) := by heap_get
  have I2 := I1.laid (t' := tk) (a := hp.objs.size + 1) (o := exo (hp.objs.size + 1) C none) (h' := (hp.push (PySem.W.kdv_tup us)).push (PySem.HandSPX.excO C hp.objs.size)) kept up (exo_ok at1)
  have rv2 : Vals (V.ref (hp.objs.size + 1) :: vs) (Value.ref (hp.objs.size + 1) :: us) := .cons rfl r1
  have many : (Value.ref (hp.objs.size + 1) :: us ++ []).length = ps.length := by rw [List.append_nil, ← rv2.length]; exact F1.len _ _ _ _ hq
  have few : us.length ≤ sizeLine := by rw [← Paired.length r1, sizeLine_eq]; omega
  have bd := hb _ (Value.ref (hp.objs.size + 1) :: us) I2.kIn many
  rw [List.append_nil] at bd
  refine wpAny_call (PySem.HandSPX.call_own b.fx (fun Y => owns_has b Y hbm) (I1.kIn _ _ hC) (PySem.W.looks_findIn I1.kIn iC) (fun self => PySem.W.bind_fn I1.kIn self tI) few (codeAny_mono
    (F1.run _ X.stack _ _ ⟨Value.ref (hp.objs.size + 1) :: us, []⟩ (Value.ref (hp.objs.size + 1) :: us) _ _ (fun _ _ _ => False) (hr.make C us []) (I2.env0.make C us []) bd rv2 hq) ?_))
  intro r s' back
  match r, back with
  | .error er, z => exact hx pins σ _ _ er s' I2 z
  | .ok .next, z => exact z.elim
  | .ok .brk, z => exact z.elim
  | .ok .cont, z => exact z.elim
  | .ok (.ret u), z =>
    obtain ⟨v, H2, os2, bare2, un2, hok2, rv, ev, d, fs, ea, ed, hd1, q2⟩ := z
    subst ev
    obtain ⟨h2, g2, d2, t2, os'⟩ := s'
    obtain ⟨t0, G, J, kG, ge, hoe, na⟩ := mk_end0 (d2 := d2) (t2 := t2) I1 up kept un2 hok2 os2 bare2 ea ed hd1
    refine ⟨rv, ⟨_, _, _, ⟨G, g2, d2, t2, os'⟩, _, .ref C, some d, rfl, J, kG, ge, hoe, ⟨rfl, rfl, fun vs hv => by cases hv; rfl⟩, rfl, rfl, na, rfl, bare2, raises_own T.exC T.tyC, q2⟩, fun q oe ws e1 e2 e3 => ?_⟩
    cases e1
    have e4 : h2.get? (hp.objs.size + 1) = some oe := e2
    rw [hoe] at e4
    cases e4
    cases e3
    show (4 : Nat) < 6
    decide
end
/-- what was made with context None was made -/
theorem pmk_of5 {X : Cx} {e : Expr} {t : L2.St → Hp → XK → Prop} (h : L2H.PMk5 X e t) : PMk X e t := fun pins s σ H Q I q => thn (h pins s σ H Q I q) fun u s' z => by
  obtain ⟨⟨a, oe, vs, sI, H', cls, d, h1, h2, h3, h4, h5, h6, h7⟩, _⟩ := z
  exact ⟨a, oe, vs, sI, H', cls, d, h1, h2, h3, h4, h5, h6.zc, h7⟩
end Tw
set_option Elab.async false
set_option linter.all false
set_option maxRecDepth 100000
set_option maxHeartbeats 4000000
/-! errors of the text's own classes, whatever their base: with no field, with one, with two; the checks of their classes -/
namespace Tw
open PySem PySem.Spec PyProof.Rows L2
/-- le: the base is LookupError, otherwise ValueError -/
def bnm (le : Bool) : String := if le then "LookupError" else "ValueError"
def nid (le : Bool) : String := if le then "LookupError.__new__" else "ValueError.__new__"
def iid (le : Bool) : String := if le then "LookupError.__init__" else "ValueError.__init__"
def btl (le : Bool) : List Value := if le then [.type "LookupError", .type "Exception", .type "BaseException", .type "object"] else [.type "ValueError", .type "Exception", .type "BaseException", .type "object"]
theorem baseOf : ∀ le : Bool, BaseOk (bnm le) (nid le) (iid le) (btl le)
  | true => baseLE
  | false => baseVE
/-! ### checks -/
def shapeG (K : PySem.W.Frag) (C : Addr) (newId : String) (tl : List Value) : Bool := match K.lookup C with
  | some ⟨.type "type", _, .cls cd, sl⟩ => (match cd.mro, sl.toList with
    | .ref C' :: bm, [_, _, _, _, some (.builtin n), _] => C' == C && n == newId && !cd.hasDel && cd.hasDict && owns tl bm
    | _, _ => false)
  | _ => false
theorem shapeG_ok {K : PySem.W.Frag} {C : Addr} {newId : String} {tl : List Value} (q : shapeG K C newId tl = true) :
    ∃ nm qn N bs bm sn sub ab col dd k0 k1 k2 k3 k5, K.lookup C = some (excClassObj nm qn C N bs bm true sn sub ab col dd k0 k1 k2 k3 k5 newId) ∧ owns tl bm = true := by
  unfold shapeG at q
  split at q
  · rename_i dd cd sl ho
    split at q
    · rename_i C' bm k0 k1 k2 k3 n k5 hm hs
      simp only [Bool.and_eq_true, beq_iff_eq, Bool.not_eq_true'] at q
      obtain ⟨⟨⟨⟨rfl, rfl⟩, hdel⟩, hd⟩, ht⟩ := q
      obtain ⟨nm, bs, mro, ns, qn, hdc, sn, sub, ab, col, del⟩ := cd
      dsimp only at hm hdel hd
      subst hm hdel hd
      have hsl : sl = #[k0, k1, k2, k3, some (.builtin n), k5] := by
        obtain ⟨l⟩ := sl
        simp only at hs
        rw [hs]
      subst hsl
      exact ⟨nm, qn, ns, bs, bm, sn, sub, ab, col, dd, k0, k1, k2, k3, k5, ho, ht⟩
    · cases q
  · cases q
def oexGB (K : PySem.W.Frag) (C : Addr) (le : Bool) : Bool := shapeG K C (nid le) (btl le) && (decide (PySem.W.findIn K (.ref C) "__setattr__" = some (some (.builtin "object.__setattr__"))) && (decide (PySem.W.subIn K (.ref C) (.type "BaseException") = some true) && (decide (PySem.W.typeIn K (.ref C) = some (.type "type")) && PySem.W.keepIn K (.ref C))))
theorem oexGB_ok {K : PySem.W.Frag} {C : Addr} {le : Bool} (h : oexGB K C le = true) : OexG K C (nid le) (btl le) := by
  obtain ⟨h1, h⟩ := Bool.and_eq_true_iff.mp h
  obtain ⟨h2, h⟩ := Bool.and_eq_true_iff.mp h
  obtain ⟨h3, h⟩ := Bool.and_eq_true_iff.mp h
  obtain ⟨h4, h5⟩ := Bool.and_eq_true_iff.mp h
  exact ⟨shapeG_ok h1, of_decide_eq_true h2, of_decide_eq_true h3, of_decide_eq_true h4, h5⟩
inductive Ck where
  /-- a class whose __init__ stores these fields -/
  | has (x : Str) (fs : List Str) (le : Bool)
  /-- a class without an __init__, over ValueError -/
  | bare (x : Str)
  | kit (x y : Str) (b : Bool)
  | kitT (x : Str) (T : String) (b : Bool)
  | exm (x y : Str) (b : Bool)
def Ck.ok (K : PySem.W.Frag) : Ck → Bool
  | .has x fs le => oexGB K (He.ga K x) le && (excB K (He.ga K x) && (fs.all (fun f => decide (PySem.W.findIn K (.ref (He.ga K x)) f = some none)) && (decide (PySem.W.findIn K (.ref (He.ga K x)) "__init__" = some (some (.ref (He.ma K (He.ga K x) "__init__")))) && decide (PySem.W.typeIn K (.ref (He.ma K (He.ga K x) "__init__")) = some (.type "function")))))
  | .bare x => He.Fa.ok K (.exc x) && excB K (He.ga K x)
  | .kit x y b => decide (PySem.W.kitOne K (.ref (He.ga K x)) (.ref (He.ga K y)) = some b)
  | .kitT x T b => decide (PySem.W.kitOne K (.ref (He.ga K x)) (.type T) = some b)
  | .exm x y b => decide (PySem.W.exmOne K (.ref (He.ga K x)) (.ref (He.ga K y)) = some b)
def ckB (l : List Ck) (K : PySem.W.Frag) : Bool := l.all fun c => c.ok K
theorem ck_at {l : List Ck} {K : PySem.W.Frag} (h : ckB l K = true) (i : Nat) {c : Ck} (e : l[i]? = some c) : c.ok K = true := List.all_eq_true.mp h c (List.mem_of_getElem? e)
/-! ### __init__ -/
def sp_initG1 (K : PySem.W.Frag) (le : Bool) (C : Addr) (f : Str) : Sp := fun vs H Q _ => ∃ a v, vs = [.ref a, v] ∧ OexG K C (nid le) (btl le) ∧ PySem.W.findIn K (.ref C) f = some none ∧ H a = some (exo a C none) ∧ ∀ dx, H dx = none → dx ≠ a → Q .non (upd (upd H dx (exd dx [(f, v)])) a (exo a C (some dx)))
def sp_initG2 (K : PySem.W.Frag) (le : Bool) (C : Addr) (f g : Str) : Sp := fun vs H Q _ => ∃ a v u, vs = [.ref a, v, u] ∧ OexG K C (nid le) (btl le) ∧ PySem.W.findIn K (.ref C) f = some none ∧ PySem.W.findIn K (.ref C) g = some none ∧ H a = some (exo a C none) ∧
  ∀ dx, H dx = none → dx ≠ a → Q .non (upd (upd (upd H dx (exd dx [(f, v)])) a (exo a C (some dx))) dx (exd dx [(g, u), (f, v)]))
def t_initG1 (K : PySem.W.Frag) (le : Bool) (f : Str) : TS := tOsg K (nid le) (btl le) f (tVar 0) (tVar 1)
def t_initG2 (K : PySem.W.Frag) (le : Bool) (f g : Str) : TS := tSeq (tOsg K (nid le) (btl le) f (tVar 0) (tVar 1)) (tOsg K (nid le) (btl le) g (tVar 0) (tVar 2))
section
variable {K : PySem.W.Frag} {le : Bool} {C : Addr} {f g : Str}
theorem len_initG1 (vs : List V) (H : Hp) (Q : VK) (E : XK) (h : sp_initG1 K le C f vs H Q E) : vs.length = 2 := by
  obtain ⟨_, _, rfl, _⟩ := h; rfl
theorem len_initG2 (vs : List V) (H : Hp) (Q : VK) (E : XK) (h : sp_initG2 K le C f g vs H Q E) : vs.length = 3 := by
  obtain ⟨_, _, _, rfl, _⟩ := h; rfl
theorem pure_initG1 (vs : List V) (H : Hp) (Q : VK) (E : XK) (h : sp_initG1 K le C f vs H Q E) : t_initG1 K le f { nx := fun _ H' => Q .non H', rt := Q } (startN 2 vs) H := by
  obtain ⟨a, v, rfl, T, hf, ha, q⟩ := h
  exact ⟨v, rfl, .ref a, rfl, a, C, rfl, T, hf, .inl ⟨ha, q⟩⟩
theorem pure_initG2 (vs : List V) (H : Hp) (Q : VK) (E : XK) (h : sp_initG2 K le C f g vs H Q E) : t_initG2 K le f g { nx := fun _ H' => Q .non H', rt := Q } (startN 3 vs) H := by
  obtain ⟨a, v, u, rfl, T, hf, hg, ha, q⟩ := h
  refine ⟨v, rfl, .ref a, rfl, a, C, rfl, T, hf, .inl ⟨ha, fun dx hdx hne => ?_⟩⟩
  refine ⟨u, rfl, .ref a, rfl, a, C, rfl, T, hg, .inr ⟨dx, [(f, v)], upd_same, ?_, by simp, q dx hdx hne⟩⟩
  rw [upd_ne hne, upd_same]
theorem mkG1_of (T : OexG K C (nid le) (btl le)) (hf : PySem.W.findIn K (.ref C) f = some none) {te : TE} {σ : L2.St} {H : Hp} {Q : XK} (h : tMk1 C f te σ H Q) (m1 : Mono te) : tMkO C (sp_initG1 K le C f) [] (tCons te tNil) σ H Q := by
  refine m1 _ _ _ _ (fun v H1 q => ?_) h
  refine ⟨show 1 ≤ 1000 by decide, fun a ha => ⟨a, v, rfl, T, hf, upd_same, fun dx hdx hne => ⟨rfl, dx, [(f, v)], upd_same, ?_, ?_, ?_⟩⟩⟩
  · rw [upd_ne hne, upd_same]
  · rw [upd_ne hne] at hdx; exact hdx
  · rw [upd_ne hne] at hdx
    have e : upd (L2.del (upd (upd (upd H1 a (exo a C none)) dx (exd dx [(f, v)])) a (exo a C (some dx))) a) dx (.xd [(f, v)]) = upd H1 dx (.xd [(f, v)]) := by
      funext b
      by_cases hb : b = dx
      · rw [hb, upd_same, upd_same]
      · rw [upd_ne hb, upd_ne hb]
        by_cases hba : b = a
        · rw [hba, del_same, ha]
        · rw [del_ne hba, upd_ne hba, upd_ne hb, upd_ne hba]
    rw [e]
    exact q dx hdx
theorem mkG2_of (T : OexG K C (nid le) (btl le)) (hf : PySem.W.findIn K (.ref C) f = some none) (hg : PySem.W.findIn K (.ref C) g = some none) {te tf : TE} {σ : L2.St} {H : Hp} {Q : XK} (h : tMk2 C f g te tf σ H Q) (m1 : Mono te) (m2 : Mono tf) :
    tMkO C (sp_initG2 K le C f g) [] (tCons te (tCons tf tNil)) σ H Q := by
  refine m1 _ _ _ _ (fun v H1 q1 => m2 _ _ _ _ (fun u H2 q => ?_) q1) h
  refine ⟨show 2 ≤ 1000 by decide, fun a ha => ⟨a, v, u, rfl, T, hf, hg, upd_same, fun dx hdx hne => ⟨rfl, dx, [(g, u), (f, v)], ?_, upd_same, ?_, ?_⟩⟩⟩
  · rw [upd_ne hne.symm, upd_same]
  · rw [upd_ne hne] at hdx; exact hdx
  · rw [upd_ne hne] at hdx
    have e : upd (L2.del (upd (upd (upd (upd H2 a (exo a C none)) dx (exd dx [(f, v)])) a (exo a C (some dx))) dx (exd dx [(g, u), (f, v)])) a) dx (.xd [(g, u), (f, v)]) = upd H2 dx (.xd [(g, u), (f, v)]) := by
      funext b
      by_cases hb : b = dx
      · rw [hb, upd_same, upd_same]
      · rw [upd_ne hb, upd_ne hb]
        by_cases hba : b = a
        · rw [hba, del_same, ha]
        · rw [del_ne hba, upd_ne hb, upd_ne hba, upd_ne hb, upd_ne hba]
    rw [e]
    exact q dx hdx
end
/-! ### what is known of a class -/
/-- no __init__ -/
structure ClsB (K : PySem.W.Frag) (mg : Str → Option Value) (x : Str) (C : Addr) : Prop where
  ex : PySem.W.excIn K C He.veBase "ValueError.__new__" = true
  kp : PySem.W.keepIn K (.ref C) = true
  sub : PySem.W.subIn K (.ref C) (.type "BaseException") = some true
  ty : PySem.W.typeIn K (.ref C) = some (.type "type")
  exc : ExcC K C
  glob : mg x = some (.ref C)
/-- an __init__ that keeps ini -/
structure ClsH (P : Program) (w : World) (K : PySem.W.Frag) (mg : Str → Option Value) (base : Heap) (x : Str) (fs : List Str) (le : Bool) (ini : Sp) (C : Addr) (k : Nat) : Prop where
  oex : OexG K C (nid le) (btl le)
  exc : ExcC K C
  xf : XfC K C
  no : ∀ f ∈ fs, PySem.W.findIn K (.ref C) f = some none
  glob : mg x = some (.ref C)
  init : ∃ (fI : Addr) (fd : FuncData) (ps : List Str), PySem.W.findIn K (.ref C) "__init__" = some (some (.ref fI)) ∧ PySem.W.typeIn K (.ref fI) = some (.type "function") ∧ FnOk P w K mg base CX0 k fI fd ps ini ∧ Binds K fd ps []
section
variable {P : Program} {w : World} {K : PySem.W.Frag} {mg : Str → Option Value} {base : Heap} {x : Str} {k : Nat}
theorem clsB_of (h : (Ck.bare x).ok K = true) (g : mg x = some (.ref (He.ga K x))) : ClsB K mg x (He.ga K x) := by
  obtain ⟨h1, h2⟩ := Bool.and_eq_true_iff.mp h
  obtain ⟨a, b, c, d⟩ := He.exc_ok h1
  exact ⟨a, b, c, d, excB_ok h2, g⟩
theorem clsH_of {fs : List Str} {le : Bool} {ini : Sp} {ps : List Str} {fd : FuncData} (h : (Ck.has x fs le).ok K = true) (g : mg x = some (.ref (He.ga K x)))
    (F : FnOk P w K mg base CX0 k (He.ma K (He.ga K x) "__init__") fd ps ini) (b : Binds K fd ps []) : ClsH P w K mg base x fs le ini (He.ga K x) k := by
  obtain ⟨h1, h⟩ := Bool.and_eq_true_iff.mp h
  obtain ⟨h2, h⟩ := Bool.and_eq_true_iff.mp h
  obtain ⟨h3, h⟩ := Bool.and_eq_true_iff.mp h
  obtain ⟨h4, h5⟩ := Bool.and_eq_true_iff.mp h
  have e := excB_ok h2
  exact ⟨oexGB_ok h1, e, ⟨e.hg, e.hk, e.hs, e.hd⟩, fun f hf => of_decide_eq_true (List.all_eq_true.mp h3 f hf), g, _, fd, ps, of_decide_eq_true h4, of_decide_eq_true h5, F, b⟩
end
/-! ### made -/
section
variable {X : Cx} {x : Str} {C : Addr} {k : Nat} {le : Bool} {f g : Str} {e e2 : Expr} {te tf : TE} {p pos : Pos}
theorem pmk5_B (c : ClsB X.K X.mg x C) (hg : Gl X x) (hdb : (x == ("__debug__" : Str)) = false := by decide) : L2H.PMk5 X (.Call (.Name x p) [] [] pos) (fun _ H Q => Q (.ref C) none H) :=
  pmk5_own0 F.excBase_ValueError c.ex c.glob c.kp (raises_own c.sub c.ty) hg hdb
theorem pmk5_H1 (c : ClsH X.prog X.w X.K X.mg X.base x [f] le (sp_initG1 X.K le C f) C k) (hr : Room (k + 1) X.A) (hg : Gl X x) (he : PE X e te) (hm : Mono te) (hdb : (x == ("__debug__" : Str)) = false := by decide)
    (hs : starEach [e] X.env = (false, eval e X.env) :: starEach [] X.env := by rfl) (hpl : (backTo pos (starEach [] X.env)).any (·.1) = false := by rfl) : L2H.PMk5 X (.Call (.Name x p) [e] [] pos) (tMk1 C f te) := by
  obtain ⟨fI, fd, ps, iC, tI, F1, b⟩ := c.init
  intro pins s σ H Q I h
  exact pmk5_osg (baseOf le) c.oex iC tI F1 hr b pass0 hg c.glob (pa_cons he pa_nil hs) hdb hs hpl pins s σ H Q I (mkG1_of c.oex (c.no f (List.mem_cons_self ..)) h hm)
theorem pmk5_H2 (c : ClsH X.prog X.w X.K X.mg X.base x [f, g] le (sp_initG2 X.K le C f g) C k) (hr : Room (k + 1) X.A) (hg : Gl X x) (he : PE X e te) (he2 : PE X e2 tf) (hm : Mono te) (hm2 : Mono tf) (hdb : (x == ("__debug__" : Str)) = false := by decide)
    (hs : starEach [e, e2] X.env = (false, eval e X.env) :: starEach [e2] X.env := by rfl) (hs2 : starEach [e2] X.env = (false, eval e2 X.env) :: starEach [] X.env := by rfl) (hpl : (backTo pos (starEach [e2] X.env)).any (·.1) = false := by rfl) :
    L2H.PMk5 X (.Call (.Name x p) [e, e2] [] pos) (tMk2 C f g te tf) := by
  obtain ⟨fI, fd, ps, iC, tI, F1, b⟩ := c.init
  intro pins s σ H Q I h
  exact pmk5_osg (baseOf le) c.oex iC tI F1 hr b pass0 hg c.glob (pa_cons he (pa_cons he2 pa_nil hs2) hs) hdb hs hpl pins s σ H Q I (mkG2_of c.oex (c.no f (List.mem_cons_self ..)) (c.no g (List.mem_cons_of_mem _ (List.mem_cons_self ..))) h hm hm2)
/-- raise, where nothing is handled (both ways to say what is taken) -/
theorem ps_rz5 {E : XK} {t : L2.St → Hp → XK → Prop} (hc : X.calm = true) (tk : Takes X (fun cls d _ H => E cls d H)) (he : L2H.PMk5 X e t) : PS X (.Raise (some e) none pos) (tRaise E t) := ps_raise hc tk (pmk_of5 he)
theorem ps_rz5N {E : XK} {t : L2.St → Hp → XK → Prop} (hc : X.calm = true) (tk : L2N.Takes X (fun cls d _ H => E cls d H)) (he : L2H.PMk5 X e t) : PS X (.Raise (some e) none pos) (tRaise E t) := L2N.ps_raise hc tk he.pmk
end
end Tw
set_option Elab.async false
set_option linter.all false
set_option maxRecDepth 100000
set_option maxHeartbeats 4000000
/-! callees that raise: where their promise may be used -/
namespace Tw
open PySem PySem.Spec PyProof.Rows L2
section
variable {P : Program} {w : World} {K : PySem.W.Frag} {mg : Str → Option Value} {base : Heap} {X : Cx}
theorem cx_of_N {outer : List PySem.Env} {H : Hp} {s : Shared} {E : XK} {u : Value} {s' : Shared} (h : L2N.CX P w outer H s E u s') : L2.CX P w outer H s E u s' := by
  obtain ⟨a, B, H', cls, d, h1, fl, h3⟩ := h
  exact ⟨a, B, H', cls, d, h1, L2H.flyingZ_imp (fun o z => z.zc) fl, h3⟩
theorem Cal.ofN {x : Str} {ps : List Str} {k : Nat} {sp : Sp} (c : Cal P w K mg base (L2N.CX P w) x ps k sp) : Cal P w K mg base (L2.CX P w) x ps k sp := by
  obtain ⟨f, fd, F, g, kp, b⟩ := c
  refine ⟨f, fd, ⟨F.len, fun A outer s H args us vs Q E hr e0 hb r h => codeAny_mono (F.run A outer s H args us vs Q E hr e0 hb r h) fun r s' z => ?_⟩, g, kp, b⟩
  match r, z with
  | .ok (.ret u), z => exact z
  | .ok .next, z => exact z
  | .ok .brk, z => exact z
  | .ok .cont, z => exact z
  | .error e, z => exact cx_of_N z
theorem pass0L : Passes (L2.CX X.prog X.w) X L2.E0 := fun _ _ _ _ _ _ _ h => by
  obtain ⟨_, _, _, _, _, _, _, _, _, _, _, _, z⟩ := h
  exact z.elim
theorem passN_never : Passes (L2N.CX X.prog X.w) X L2.E0 := fun _ _ _ _ _ _ _ h => by
  obtain ⟨_, _, _, _, _, _, _, _, _, _, _, _, z⟩ := h
  exact z.elim
end
end Tw
set_option Elab.async false
set_option linter.all false
set_option maxRecDepth 100000
set_option maxHeartbeats 4000000
/-! the law k09 -/
namespace Tw
open PySem PySem.Spec PyProof.Rows L2
local macro_rules | `(tactic| walk_at "wp") => `(tactic| try simp (config := { maxSteps := 1000000 }) only [↓w_SE_var, ↓w_SE_non, ↓w_SE_bl, ↓w_SE_int, ↓w_SE_str, ↓w_SE_op, ↓w_SE_un, ↓w_SE_cb, ↓w_SE_tup, ↓w_SE_lst, ↓w_SE_ifE, ↓w_SE_isN, ↓w_SE_notN, ↓w_SA_nil, ↓w_SA_cons, ↓w_ST_not, ↓w_ST_and, ↓w_ST_or, ↓w_ST_yes, ↓w_ST_tru, ↓w_SG_name, ↓w_SS_next, ↓w_SS_brk, ↓w_SS_cont, ↓w_SS_never, ↓w_SS_seq, ↓w_SS_cut, ↓w_SS_asg, ↓w_SS_drop, ↓w_SS_ret, ↓w_SS_retN, ↓w_SS_ifS, ↓w_SS_for_, ↓w_SS_while_, ↓w_SN_lst, ↓w_SE_nl, ↓w_SS_own, ↓w_SN_lc, ↓w_SE_call, ↓w_SE_callS, ↓w_SE_pop, ↓w_SP__no, ↓w_SS_raise0, ↓w_SS_raise1, ↓w_SS_raise2, ↓w_SS_tryO, ↓w_SS_tryA, ↓w_SS_tryM, ↓w_SE_xf, ↓w_SE_isE, ↓w_SE_popAt, ↓w_SN_slO, ↓w_SN_sortedS, ↓w_SN_sortedI, ↓w_SS_asg2, ↓w_SS_par, ↓w_SE_joined, ↓w_SE_join, ↓w_SE_txtB, ↓w_SE_lenSetT, ↓w_SE_chain, ↓w_SO_inSign, ↓w_SO_eqE, ↓w_SB_all_, ↓w_SB_repr, ↓c_i0, ↓c_c0, ↓c_iC, ↓c_addS, ↓c_repS, ↓c_catT, ↓c_ixS, ↓c_ixT, ↓c_ixL, ↓c_eq_ii, ↓c_eq_ss, ↓c_eq_ns, ↓c_eq_sn, ↓c_eq_bb, ↓c_eq_nn, ↓c_eq_ni, ↓c_eq_in, ↓c_ne_ii, ↓c_ne_ss, ↓c_ne_bb, ↓c_ne_ns, ↓c_ne_sn, ↓c_ne_nn, ↓c_ne_ni, ↓c_ne_in, ↓c_inST, ↓c_inSL, ↓c_lenS, ↓c_lenQt, ↓c_lenQl, ↓c_abs, ↓c_int1i, ↓c_int1b, ↓c_tupl, ↓c_tupt, ↓c_max2, ↓c_min2, ↓c_neg, ↓c_tst, ↓c_asI, ↓c_asS, ↓c_asT, ↓c_asL, ↓c_asQl, ↓c_asQt, ↓o_tt, ↓o_ts, ↓o_tl, ↓o_ti, ↓o_st, ↓o_ss, ↓o_sl_, ↓o_si, ↓o_lt, ↓o_ls, ↓o_ll, ↓o_li, ↓o_it, ↓o_is, ↓o_il, ↓o_ii, ↓o_bt, ↓o_bs, ↓o_bl_, ↓o_bi, ↓o_nt, ↓o_ns, ↓o_nl, ↓o_ni, ↓o_dt, ↓o_ds, ↓o_dl, ↓o_di, ↓v_test, ↓v_b, ↓v_andV, ↓v_orV, ↓v_notV, ↓v_isi, ↓v_at, ↓v_slS, ↓v_slT, ↓v_slL, ↓v_listOf, ↓v_revL, ↓v_revT, ↓v_cat, ↓v_rep, ↓v_ilist, ↓v_itup, ↓v_istr, ↓v_enumL, ↓v_enumT, ↓v_rng1, ↓v_rng2, ↓c_rng1, ↓c_rng2, ↓v_zipA, ↓c_zipt, ↓c_zipl, ↓v_gtup, ↓c_unp, ↓v_gunl, ↓c_unpL, ↓v_fmt, ↓c_fmts, ↓c_fmti, ↓v_js, ↓v_lenO, ↓v_tupO, ↓v_listO, ↓v_truO, ↓v_eqEO, ↓v_append, ↓v_ixO, ↓v_extendT, ↓v_extendL, ↓v_insert, ↓v_setL, ↓v_inO, ↓v_v0, ↓v_v0o, ↓v_v0d, ↓v_vs, ↓v_o0, ↓v_os, ↓v_d0, ↓v_ds, tr_non, tr_bl, tr_int, tr_str, tr_tup, tr_lst, tr_dic, in_non, in_bl, in_int, in_str, in_tup, in_lst, in_dic, we_nil, we_cons, sl_name, sl_tup, sl_unl, sa_nil, sa_cons, pr_val, pr_own, st_app, st_nil, js_nil, ↓w_for0, ↓w_for1, List.getElem?_cons_zero, List.getElem?_cons_succ, List.set_cons_zero, List.set_cons_succ, List.length_cons, List.length_nil, List.replicate_succ, List.replicate_zero, if_true, Bool.not_true, Bool.not_false, Bool.false_eq_true, if_false, ite_true, ite_false, decide_true, decide_false, Nat.reduceSub, Nat.reduceAdd, Nat.zero_add, true_and, and_true])
structure Cf09 (K : PySem.W.Frag) (A_TwigError A_BadGaps A_BadNames A_BadRow A_NoName : Addr) : Prop where
  rr : PySem.W.exmOne K (.ref A_BadRow) (.ref A_BadRow) = some true
  gg : PySem.W.exmOne K (.ref A_BadGaps) (.ref A_BadGaps) = some true
def psp_l_wide_right : PSp := fun xs _ post => xs = [.deck] ∧ post (.bl true)
def psp_l_deep : PSp := fun xs _ post => xs = [.deck] ∧ post (.bl true)
def X_l_deep_t1 (K : PySem.W.Frag) (A_BadGaps : Addr) : SS K :=
  (SS.asg (SE.callS (spOf K (psp_filled A_BadGaps)) (psp_filled A_BadGaps) (spOf_ok K (psp_filled A_BadGaps)) (SA.cons (SE.call (sp_l_from_row K) psp_l_from_row (hs_l_from_row K) (SA.cons (SE.var 3) SA.nil)) (SA.cons (SE.cb SB.tupleOf (SA.cons (SE.var 7) SA.nil)) SA.nil))) (SG.name 10))
def X_l_deep_h1 (K : PySem.W.Frag) (A_BadGaps : Addr) : SS K :=
  (SS.ret (SE.op (SO.c0 fun i j => decide (j < i)) (SE.var 8) (SE.int 100)))
def X_l_deep (K : PySem.W.Frag) (A_BadGaps : Addr) : SS K :=
  (SS.seq (SS.asg (SE.call sp_l_names psp_l_names (hs_l_names K) (SA.cons (SE.var 0) (SA.cons (SE.op (SO.i0 fun i j => i + j) (SE.int 94) (SE.call sp_l_draw psp_l_draw (hs_l_draw K) (SA.cons (SE.var 0) (SA.cons (SE.int 13) SA.nil)))) SA.nil))) (SG.name 1))
  (SS.seq (SS.asg (SE.op (SO.i0 fun i j => i + j) (SE.int 1) (SE.call sp_l_draw psp_l_draw (hs_l_draw K) (SA.cons (SE.var 0) (SA.cons (SE.int 40) SA.nil)))) (SG.name 2))
  (SS.seq (SS.asg (SE.call (spR K 121) psp_l_row (hs_l_row K) (SA.cons (SE.call (sp_l_tall_wood K) psp_l_tall_wood (hs_l_tall_wood K) (SA.cons (SE.var 0) (SA.cons (SE.nl (SN.slL (SE.var 1) SP_.no (SP_.at_ (SE.var 2)))) (SA.cons (SE.var 2) SA.nil)))) SA.nil)) (SG.name 3))
  (SS.seq (SS.asg (SE.call sp_l_draw psp_l_draw (hs_l_draw K) (SA.cons (SE.var 0) (SA.cons (SE.op (SO.i0 fun i j => i + j) (SE.op (SO.iC CMul fun i j => i * j) (SE.int 2) (SE.var 2)) (SE.int 1)) SA.nil))) (SG.name 4))
  (SS.seq (SS.asg (SE.nl (SN.slL (SE.var 1) (SP_.at_ (SE.var 2)) SP_.no)) (SG.name 5))
  (SS.seq (SS.asg (SE.nl (SN.cat (SE.nl (SN.lc (SI.list (SE.var 5)) (SG.name 11) ST.yes (SE.op SO.addS (SE.str "+") (SE.var 11)))) (SE.nl (SN.lc (SI.list (SE.nl (SN.revL (SE.var 5)))) (SG.name 11) ST.yes (SE.op SO.addS (SE.str "-") (SE.var 11)))))) (SG.name 6))
  (SS.seq (SS.asg (SE.nl (SN.cat (SE.nl (SN.cat (SE.nl (SN.rep (SE.nl (SN.lst (SA.cons (SE.tup SA.nil) SA.nil))) (SE.var 4))) (SE.nl (SN.lst (SA.cons (SE.cb SB.tupleOf (SA.cons (SE.var 6) SA.nil)) SA.nil))))) (SE.nl (SN.rep (SE.nl (SN.lst (SA.cons (SE.tup SA.nil) SA.nil))) (SE.op (SO.i0 fun i j => i - j) (SE.op (SO.iC CMul fun i j => i * j) (SE.int 2) (SE.var 2)) (SE.var 4)))))) (SG.name 7))
  (SS.seq (SS.asg (SE.op (SO.i0 fun i j => i + j) (SE.op (SO.i0 fun i j => i - j) (SE.cb SB.lenQ (SA.cons (SE.var 1) SA.nil)) (SE.var 2)) (SE.cb SB.min2 (SA.cons (SE.var 4) (SA.cons (SE.op (SO.i0 fun i j => i - j) (SE.op (SO.iC CMul fun i j => i * j) (SE.int 2) (SE.var 2)) (SE.var 4)) SA.nil)))) (SG.name 8))
  (SS.seq (SS.asg (SE.call (sp_l_from_row K) psp_l_from_row (hs_l_from_row K) (SA.cons (SE.op SO.catT (SE.op SO.catT (SE.slT (SE.var 3) SP_.no (SP_.at_ (SE.var 4))) (SE.cb SB.tupleOf (SA.cons (SE.var 6) SA.nil))) (SE.slT (SE.var 3) (SP_.at_ (SE.var 4)) SP_.no)) SA.nil)) (SG.name 9))
  (SS.seq (SS.tryO A_BadGaps (X_l_deep_t1 K A_BadGaps) (X_l_deep_h1 K A_BadGaps))
  (SS.ret (SE.andV (SE.op (SO.c0 fun i j => decide (i ≤ j)) (SE.var 8) (SE.int 100)) (SE.op SO.eqL (SE.var 10) (SE.var 9))))))))))))))

def X_l_wide_right (K : PySem.W.Frag) (A_BadGaps A_BadRow : Addr) : SS K :=
  (SS.seq (SS.asg (SE.call sp_l_names psp_l_names (hs_l_names K) (SA.cons (SE.var 0) (SA.cons (SE.op (SO.i0 fun i j => i + j) (SE.int 121) (SE.call sp_l_draw psp_l_draw (hs_l_draw K) (SA.cons (SE.var 0) (SA.cons (SE.int 80) SA.nil)))) SA.nil))) (SG.name 1))
  (SS.seq (SS.asg (SE.call (spOf K (psp_wood_of A_BadRow)) (psp_wood_of A_BadRow) (spOf_ok K (psp_wood_of A_BadRow)) (SA.cons (SE.call (spR K 121) psp_l_row (hs_l_row K) (SA.cons (SE.call (sp_l_tall_wood K) psp_l_tall_wood (hs_l_tall_wood K) (SA.cons (SE.var 0) (SA.cons (SE.var 1) (SA.cons (SE.op (SO.i0 fun i j => i + j) (SE.int 1) (SE.call sp_l_draw psp_l_draw (hs_l_draw K) (SA.cons (SE.var 0) (SA.cons (SE.int 3) SA.nil)))) SA.nil)))) SA.nil)) SA.nil)) (SG.name 2))
  (SS.seq (SS.asg (SE.call (sp_l_chosen K) psp_l_chosen (hs_l_chosen K) (SA.cons (SE.var 0) (SA.cons (SE.nl (SN.slL (SE.var 1) SP_.no (SP_.at_ (SE.int 10)))) SA.nil))) (SG.name 3))
  (SS.ret (SE.op SO.eqB (SE.call (spOf K (psp_filled A_BadGaps)) (psp_filled A_BadGaps) (spOf_ok K (psp_filled A_BadGaps)) (SA.cons (SE.call (sp_skeleton_of K) psp_skeleton_of (hs_skeleton_of K) (SA.cons (SE.var 2) (SA.cons (SE.var 3) SA.nil))) (SA.cons (SE.call (sp_gaps_of K) psp_gaps_of (hs_gaps_of K) (SA.cons (SE.var 2) (SA.cons (SE.var 3) SA.nil))) SA.nil))) (SE.var 2))))))

def X_law_r1 (K : PySem.W.Frag) (A_BadGaps : Addr) : SS K :=
  (SS.ret (SE.call (spOf K psp_l_deep) psp_l_deep (spOf_ok K psp_l_deep) (SA.cons (SE.var 1) SA.nil)))
def X_law_r2 (K : PySem.W.Frag) (A_BadGaps : Addr) : SS K :=
  (SS.seq (SS.asg (SE.call (sp_l_some_wood K) psp_l_some_wood (hs_l_some_wood K) (SA.cons (SE.var 1) SA.nil)) (SG.name 2))
  (SS.seq (SS.asg (SE.call (sp_l_chosen K) psp_l_chosen (hs_l_chosen K) (SA.cons (SE.var 1) (SA.cons (SE.nl (SN.lc (SI.tup (SE.call (spR K 121) psp_l_row (hs_l_row K) (SA.cons (SE.var 2) SA.nil))) (SG.name 7) (ST.test (SE.op SO.eq (SE.op SO.ixS (SE.var 7) (SE.int 0)) (SE.str "+"))) (SE.slS (SE.var 7) (SP_.at_ (SE.int 1)) SP_.no))) SA.nil))) (SG.name 3))
  (SS.seq (SS.par 4 5 (.val (SE.call (sp_skeleton_of K) psp_skeleton_of (hs_skeleton_of K) (SA.cons (SE.var 2) (SA.cons (SE.var 3) SA.nil)))) (.val (SE.call (sp_gaps_of K) psp_gaps_of (hs_gaps_of K) (SA.cons (SE.var 2) (SA.cons (SE.var 3) SA.nil)))))
  (SS.seq (SS.ifS (ST.test (SE.op SO.neB (SE.call (spOf K (psp_filled A_BadGaps)) (psp_filled A_BadGaps) (spOf_ok K (psp_filled A_BadGaps)) (SA.cons (SE.var 4) (SA.cons (SE.var 5) SA.nil))) (SE.var 2))) (SS.ret (SE.bl false)) SS.next)
  (SS.seq (SS.asg (SE.call (sp_skeleton_of K) psp_skeleton_of (hs_skeleton_of K) (SA.cons (SE.call (spOf K (psp_filled A_BadGaps)) (psp_filled A_BadGaps) (spOf_ok K (psp_filled A_BadGaps)) (SA.cons (SE.var 4) (SA.cons (SE.var 5) SA.nil))) (SA.cons (SE.var 3) SA.nil))) (SG.name 6))
  (SS.seq (SS.ifS (ST.or (ST.test (SE.op SO.neB (SE.var 6) (SE.var 4))) (ST.test (SE.op SO.neB (SE.call (sp_gaps_of K) psp_gaps_of (hs_gaps_of K) (SA.cons (SE.call (spOf K (psp_filled A_BadGaps)) (psp_filled A_BadGaps) (spOf_ok K (psp_filled A_BadGaps)) (SA.cons (SE.var 4) (SA.cons (SE.var 5) SA.nil))) (SA.cons (SE.var 3) SA.nil))) (SE.var 5)))) (SS.ret (SE.bl false)) SS.next)
  (X_law_r1 K A_BadGaps)))))))
def X_law (K : PySem.W.Frag) (A_BadGaps : Addr) : SS K :=
  (SS.seq (SS.ifS (ST.and (ST.test (SE.op SO.eq (SE.call sp_l_draw psp_l_draw (hs_l_draw K) (SA.cons (SE.var 1) (SA.cons (SE.int 8) SA.nil))) (SE.int 5))) (ST.not (ST.b (SE.call (spOf K psp_l_wide_right) psp_l_wide_right (spOf_ok K psp_l_wide_right) (SA.cons (SE.var 1) SA.nil))))) (SS.ret (SE.bl false)) SS.next)
  (X_law_r2 K A_BadGaps))

theorem tup_of {y : PV} (h : isTup y = true) : ∃ ys, y = .tup ys := by
  cases y <;> first | exact ⟨_, rfl⟩ | cases h
theorem neB_gaps {K : PySem.W.Frag} {gs : List (List Str)} {P : PV → Prop} (hn : ∀ g ∈ gs, ∀ z ∈ g, PyData.strOk z = true) (h : P (.bl false)) : (SO.neB : SO K).wp (gpv gs) (gpv gs) P := by
  refine neB_refl (gpv_plain gs) ?_ ?_ h
  · show PyData.canLay0 (.tuple (PV.pdL (gs.map fun g => sT g))) = true
    rw [PyData.canLay0, gpv_pd]; exact gdata_lay gs hn
  · show PyData.depth (.tuple (PV.pdL (gs.map fun g => sT g))) ≤ _
    rw [PyData.depth, gpv_pd]
    have := gdata_depth gs
    omega
/-! ### a row in a gap of another one -/
/-- the wood c in the gap a of f -/
def insP : Nat → Fo → Fo → Fo
  | 0, c, f => c.app f
  | _ + 1, c, .nil => c
  | a + 1, c, .cons n ks r => if a ≤ ks.erow.length then .cons n (insP a c ks) r else .cons n ks (insP (a - ks.erow.length - 1) c r)
/-- how many are open in gap a -/
def dpa : Nat → Fo → Nat
  | 0, _ => 0
  | _ + 1, .nil => 0
  | a + 1, .cons _ ks r => if a ≤ ks.erow.length then dpa a ks + 1 else dpa (a - ks.erow.length - 1) r
theorem erow_insP (c : Fo) : ∀ (f : Fo) (a : Nat), a ≤ f.erow.length → (insP a c f).erow = f.erow.take a ++ c.erow ++ f.erow.drop a
  | f, 0, _ => by unfold insP; rw [erow_app]; simp
  | .nil, a + 1, h => by simp [Fo.erow] at h
  | .cons n ks r, a + 1, h => by
    simp only [Fo.erow, List.length_cons, List.length_append] at h
    unfold insP
    by_cases hk : a ≤ ks.erow.length
    · rw [if_pos hk]
      simp only [Fo.erow, erow_insP c ks a hk, List.take_succ_cons, List.drop_succ_cons]
      rw [List.take_append_of_le_length hk, List.drop_append_of_le_length hk]
      simp
    · rw [if_neg hk]
      obtain ⟨b, hb⟩ : ∃ b, a = ks.erow.length + 1 + b := ⟨a - ks.erow.length - 1, by omega⟩
      subst hb
      have e : ks.erow.length + 1 + b - ks.erow.length - 1 = b := by omega
      rw [e]
      simp only [Fo.erow, erow_insP c r b (by omega), List.take_succ_cons, List.drop_succ_cons]
      rw [List.take_append, List.drop_append, List.take_of_length_le (show ks.erow.length ≤ ks.erow.length + 1 + b by omega), List.drop_eq_nil_of_le (show ks.erow.length ≤ ks.erow.length + 1 + b by omega)]
      have e2 : ks.erow.length + 1 + b - ks.erow.length = b + 1 := by omega
      rw [e2]
      simp
theorem dp_insP {c : Fo} (hc : c ≠ .nil) : ∀ (f : Fo) (a : Nat), a ≤ f.erow.length → (insP a c f).dp = max f.dp (dpa a f + c.dp)
  | f, 0, _ => by unfold insP dpa; rw [dp_app]; omega
  | .nil, a + 1, h => by simp [Fo.erow] at h
  | .cons n ks r, a + 1, h => by
    simp only [Fo.erow, List.length_cons, List.length_append] at h
    unfold insP dpa
    by_cases hk : a ≤ ks.erow.length
    · rw [if_pos hk, if_pos hk]
      simp only [Fo.dp, dp_insP hc ks a hk]; omega
    · rw [if_neg hk, if_neg hk]
      simp only [Fo.dp, dp_insP hc r (a - ks.erow.length - 1) (by omega)]; omega
theorem dp_le_nm : ∀ f : Fo, f.dp ≤ f.nm.length
  | .nil => Nat.le_refl _
  | .cons n ks r => by
    have := dp_le_nm ks
    have := dp_le_nm r
    simp only [Fo.dp, Fo.nm, List.length_cons, List.length_append]; omega
theorem erow_len (f : Fo) : f.erow.length = 2 * f.nm.length := by rw [← row_len f, Fo.row_erow, List.length_map]
/-- a chain -/
theorem dpa_chain : ∀ (f : Fo) (a : Nat), f.dp = f.nm.length → a ≤ f.erow.length → dpa a f = min a (f.erow.length - a)
  | f, 0, _, _ => by unfold dpa; omega
  | .nil, a + 1, _, h => by simp [Fo.erow] at h
  | .cons n ks r, a + 1, hd, h => by
    have h1 := dp_le_nm ks
    have h2 := dp_le_nm r
    have hk := erow_len ks
    have hr := erow_len r
    simp only [Fo.dp, Fo.nm, List.length_cons, List.length_append] at hd
    have e1 : ks.dp = ks.nm.length := by omega
    have e2 : r.nm.length = 0 := by omega
    simp only [Fo.erow, List.length_cons, List.length_append] at h ⊢
    unfold dpa
    by_cases hka : a ≤ ks.erow.length
    · rw [if_pos hka, dpa_chain ks a e1 hka]; omega
    · rw [if_neg hka]
      have : a - ks.erow.length - 1 = 0 := by omega
      rw [this]
      unfold dpa
      omega
theorem nm_insP (c : Fo) : ∀ (f : Fo) (a : Nat), a ≤ f.erow.length → (insP a c f).nm.Perm (c.nm ++ f.nm)
  | f, 0, _ => by unfold insP; rw [Fo.nm_app]
  | .nil, a + 1, h => by simp [Fo.erow] at h
  | .cons n ks r, a + 1, h => by
    simp only [Fo.erow, List.length_cons, List.length_append] at h
    unfold insP
    by_cases hk : a ≤ ks.erow.length
    · rw [if_pos hk]
      simp only [Fo.nm]
      refine (List.Perm.cons n ((nm_insP c ks a hk).append_right r.nm)).trans ?_
      rw [List.append_assoc]
      exact List.perm_middle.symm
    · rw [if_neg hk]
      simp only [Fo.nm]
      refine (List.Perm.cons n ((nm_insP c r (a - ks.erow.length - 1) (by omega)).append_left ks.nm)).trans ?_
      refine (List.Perm.cons n ?_).trans List.perm_middle.symm
      rw [← List.append_assoc, ← List.append_assoc]
      exact List.perm_append_comm.append_right _
def chainW : List Str → Fo
  | [] => .nil
  | n :: ns => .cons n (chainW ns) .nil
theorem erow_chain : ∀ ns : List Str, (chainW ns).erow = ns.map (fun n => ((true, n) : En)) ++ ns.reverse.map fun n => ((false, n) : En)
  | [] => rfl
  | n :: ns => by simp [chainW, Fo.erow, erow_chain ns]
theorem nm_chain : ∀ ns : List Str, (chainW ns).nm = ns
  | [] => rfl
  | n :: ns => by simp [chainW, Fo.nm, nm_chain ns]
theorem dp_chain : ∀ ns : List Str, (chainW ns).dp = ns.length
  | [] => rfl
  | n :: ns => by simp [chainW, Fo.dp, dp_chain ns]
theorem weave_one (x : List PV) : ∀ (a b : Nat) (row : List Str), row.length = a + b → ∃ g gs, List.replicate a (PV.tup []) ++ [PV.tup x] ++ List.replicate b (PV.tup []) = g :: gs ∧ gs.length = row.length ∧ (∀ y ∈ g :: gs, isTup y = true) ∧
    itemsOf g ++ weave row gs = (row.take a).map PV.str ++ x ++ (row.drop a).map PV.str
  | 0, b, row, h => by
    refine ⟨.tup x, List.replicate b (.tup []), by simp, by simp; omega, fun y hy => ?_, ?_⟩
    · rcases List.mem_cons.mp hy with rfl | hy
      · rfl
      · rw [(List.mem_replicate.mp hy).2]; rfl
    · have : ∀ (row : List Str) (b : Nat), row.length = b → weave row (List.replicate b (.tup [])) = row.map PV.str := by
        intro row
        induction row with
        | nil => intro b _; cases b <;> rfl
        | cons e row ih =>
          intro b hb
          cases b with
          | zero => cases hb
          | succ b => rw [List.replicate_succ, weave, ih b (by simpa using hb)]; rfl
      rw [this row b (by omega)]; simp [itemsOf]
  | a + 1, b, row, h => by
    cases row with
    | nil => simp at h; omega
    | cons e row =>
      obtain ⟨g, gs, h1, h2, h3, h4⟩ := weave_one x a b row (by simp at h; omega)
      refine ⟨.tup [], g :: gs, ?_, by simp [h2], fun y hy => ?_, ?_⟩
      · rw [List.replicate_succ, List.cons_append, List.cons_append, ← h1]
      · rcases List.mem_cons.mp hy with rfl | hy
        · rfl
        · exact h3 y hy
      · rw [weave, h4]; simp [itemsOf]
section
variable {K : PySem.W.Frag}
theorem plain_l_wide_right {A_BadGaps A_BadRow : Addr} (xs : List PV) (perr : PErr → Prop) (post : PV → Prop) (h : psp_l_wide_right xs perr post) : (X_l_wide_right K A_BadGaps A_BadRow).wp (fun _ _ => False) { nx := fun _ => post .non, rt := post } (startE 4 xs) := by
  obtain ⟨rfl, h⟩ := h
  unfold X_l_wide_right
  walk_at "wp"
  refine ⟨80, rfl, by decide, by decide, fun d d0 d1 => ?_⟩
  walk_at "wp"
  refine ⟨_, rfl, by omega, by omega, fun zs hl nd hn => ?_⟩
  walk_at "wp"
  refine ⟨3, rfl, by decide, by decide, fun t t0 t1 => ?_⟩
  walk_at "wp"
  refine ⟨zs, 1 + t, rfl, nd, hn, by omega, by omega, by omega, fun f hp hd hq => ?_⟩
  have hlen := hp.length_eq
  have ok : RowOk f := ⟨hp.nodup_iff.mpr nd, fun z hz => hn z (hp.mem_iff.mp hz), by omega, by omega⟩
  have hrl := row_len f
  refine ⟨f, rfl, by omega, by omega, ok.ok.short, ?_⟩
  refine ⟨_, rfl, by simp [PV.tyN], .inr ⟨_, rfl, okv_row ok.nms, by rw [List.length_map]; omega, ?_⟩⟩
  rw [plc_good ok.nd ok.nms ok.dp]
  intro g hg okg
  have := row_inj (strs_inj hg)
  subst this
  walk_at "wp"
  rw [cutP_to (by decide), ← List.map_take]
  refine ⟨_, rfl, nd.sublist (List.take_sublist ..), by rw [List.length_take]; omega, fun cs nc hc => ?_⟩
  have hin : ∀ z ∈ cs, z ∈ f.nm := fun z hz => hp.mem_iff.mpr (List.mem_of_mem_take (hc z hz))
  refine ⟨f, cs, rfl, ok.ok, nc, hin, ?_⟩
  refine ⟨f, cs, rfl, ok.ok, nc, hin, ?_⟩
  refine filled_back ok ?_
  exact eqB_refl (pv_plain f) (pv_lay ok.nms) (Nat.le_trans (pv_depth (n := 3) (by omega)) (by decide)) h
theorem plain_l_deep {A_BadGaps : Addr} (gg : PySem.W.exmOne K (.ref A_BadGaps) (.ref A_BadGaps) = some true) (xs : List PV) (perr : PErr → Prop) (post : PV → Prop) (h : psp_l_deep xs perr post) : (X_l_deep K A_BadGaps).wp (fun _ _ => False) { nx := fun _ => post .non, rt := post } (startE 12 xs) := by
  obtain ⟨rfl, h⟩ := h
  have hz := sizeLine_eq
  unfold X_l_deep
  walk_at "wp"
  refine ⟨13, rfl, by decide, by decide, fun d d0 d1 => ?_⟩
  walk_at "wp"
  refine ⟨_, rfl, by omega, by omega, fun zs hl nd hn => ?_⟩
  refine ⟨40, rfl, by decide, by decide, fun e e0 e1 => ?_⟩
  walk_at "wp"
  obtain ⟨m, rfl⟩ : ∃ m : Nat, e = (m : Int) := ⟨e.toNat, by omega⟩
  have em : (1 + (m : Int)).toNat = m + 1 := by omega
  rw [cutP_to (by omega), em, ← List.map_take]
  have nd1 : (zs.take (m + 1)).Nodup := nd.sublist (List.take_sublist ..)
  refine ⟨_, _, rfl, nd1, fun z hz => hn z (List.mem_of_mem_take hz), by rw [List.length_take]; omega, by omega, by omega, fun f hp hd hq => ?_⟩
  have hfl : f.nm.length = m + 1 := by rw [hp.length_eq, List.length_take]; omega
  have hfd : f.dp = f.nm.length := by
    have := hq (by rw [List.length_take]; omega)
    rw [List.length_take] at this
    omega
  have hfn : ∀ z ∈ f.nm, IsName z := fun z hz => hn z (List.mem_of_mem_take (hp.mem_iff.mp hz))
  have ok : RowOk f := ⟨hp.nodup_iff.mpr nd1, hfn, by omega, by omega⟩
  have hrl := row_len f
  have hel := erow_len f
  refine ⟨f, rfl, by omega, by omega, ok.ok.short, ?_⟩
  walk_at "wp"
  refine ⟨.inl ⟨by decide, by decide⟩, _, rfl, by omega, by omega, fun a a0 a1 => ?_⟩
  obtain ⟨at_, rfl⟩ : ∃ k : Nat, a = (k : Int) := ⟨a.toNat, by omega⟩
  walk_at "wp"
  rw [cutP_from (by omega), em, ← List.map_drop]
  have hos : (zs.drop (m + 1)).length = zs.length - (m + 1) := List.length_drop ..
  have hz8 : ∀ z ∈ zs, z.length ≤ 8 := fun z hz => (hn z hz).eight
  have l1 : ("+" : Str).length = 1 := by decide +kernel
  have l2 : ("-" : Str).length = 1 := by decide +kernel
  refine lc_strs Fo.plus (fun z hzm k hk => ?_) (by omega) ?_
  · have := hz8 z (List.mem_of_mem_drop hzm)
    unfold lcStep
    walk_at "wp"
    refine ⟨?_, hk⟩
    show ("+" : Str).length + _ ≤ _
    omega
  walk_at "wp"
  rw [← List.map_reverse]
  refine lc_strs Fo.minus (fun z hzm k hk => ?_) (by rw [List.length_reverse]; omega) ?_
  · have := hz8 z (List.mem_of_mem_drop (List.mem_reverse.mp hzm))
    unfold lcStep
    walk_at "wp"
    refine ⟨?_, hk⟩
    show ("-" : Str).length + _ ≤ _
    omega
  walk_at "wp"
  rw [rep_flat, rep_flat]
  rw [cutP_to (by omega), cutP_from (by omega)]
  have ea : ((at_ : Nat) : Int).toNat = at_ := Int.toNat_natCast _
  have eb : (2 * (1 + (m : Int)) - (at_ : Int)).toNat = 2 * (m + 1) - at_ := by omega
  rw [ea, eb]
  generalize hos2 : zs.drop (m + 1) = os at *
  have hcr : (chainW os).row = os.map Fo.plus ++ os.reverse.map Fo.minus := by
    rw [Fo.row_erow, erow_chain, List.map_append, List.map_map, List.map_map]; rfl
  have hins : (os.map Fo.plus).map PV.str ++ (os.reverse.map Fo.minus).map PV.str = (chainW os).row.map PV.str := by rw [hcr, List.map_append]
  have hcl : ((chainW os).row.map PV.str).length = 2 * os.length := by rw [List.length_map, row_len, nm_chain]
  have hpl : ((os.map Fo.plus).map PV.str).length = os.length := by simp
  have hml : ((os.reverse.map Fo.minus).map PV.str).length = os.length := by simp
  have hfr : (f.row.map PV.str).length = 2 * (m + 1) := by rw [List.length_map, hrl, hfl]
  have hale : at_ ≤ f.erow.length := by omega
  have hon : os ≠ [] := fun z => by rw [z] at hos; simp at hos; omega
  rw [hins]
  have hg : (f.row.map PV.str).take at_ ++ (chainW os).row.map PV.str ++ (f.row.map PV.str).drop at_ = (insP at_ (chainW os) f).row.map PV.str := by
    rw [Fo.row_erow (insP at_ (chainW os) f), erow_insP _ f at_ hale, Fo.row_erow f, Fo.row_erow (chainW os)]
    simp only [List.map_append, List.map_take, List.map_drop]
  generalize hgg : insP at_ (chainW os) f = g at *
  have hgp : g.nm.Perm (os ++ f.nm) := by rw [← hgg]; have := nm_insP (chainW os) f at_ hale; rwa [nm_chain] at this
  have hall : (os ++ f.nm).Perm zs := by
    refine (List.perm_append_comm.trans (hp.append_right os)).trans ?_
    rw [← hos2, List.take_append_drop]
  have hgz := hgp.trans hall
  have hgk : NameOk g := ⟨hgz.nodup_iff.mpr nd, fun z hz => hn z (hgz.mem_iff.mp hz), by rw [hgz.length_eq]; omega⟩
  have hgd : g.dp = max f.dp (min at_ (f.erow.length - at_) + os.length) := by
    rw [← hgg, dp_insP (by cases os with | nil => exact absurd rfl hon | cons _ _ => exact fun z => by cases z) f at_ hale, dpa_chain f at_ hfd hale, dp_chain]
  have hgl : (g.row.map PV.str).length = 2 * zs.length := by rw [List.length_map, row_len, hgz.length_eq]
  simp only [List.length_append, List.length_replicate, List.length_cons, List.length_nil, List.length_take, List.length_drop, hcl, hpl, hml, hfr]
  refine ⟨by omega, by omega, by omega, by omega, by omega, by omega, by omega, by omega, by omega, by omega, .inl ⟨by decide, by decide⟩, by omega, by omega, by omega, by omega, .inl ⟨by decide, by decide⟩, by omega, by omega, ?_⟩
  rw [hg]
  refine ⟨g, rfl, hgk, ?_⟩
  unfold X_l_deep_t1 X_l_deep_h1
  walk_at "wp"
  refine ⟨f, rfl, ok.ok, ?_⟩
  walk_at "wp"
  obtain ⟨w, ws, h1, h2, h3, h4⟩ := weave_one ((chainW os).row.map PV.str) at_ (2 * (m + 1) - at_) f.row (by omega)
  rw [h1]
  have hfp : fillP f.row (.tup (w :: ws)) = some (g.row.map PV.str) := by
    have ht : tupsOf (.tup (w :: ws)) (f.row.length + 1) = true := by
      simp only [tupsOf, Bool.and_eq_true, decide_eq_true_eq, List.all_eq_true, List.length_cons]
      exact ⟨by omega, h3⟩
    show (if tupsOf (.tup (w :: ws)) _ = true then _ else _) = _
    rw [if_pos ht, h4, ← hg, List.map_take, List.map_drop]
  have hty : ∀ y ∈ w :: ws, y.tyN ≠ none := fun y hy => by
    obtain ⟨q, rfl⟩ := tup_of (h3 y hy)
    exact fun z => by cases z
  refine ⟨f, _, rfl, ok.ok, fun z => (by cases z), fun ys hy => ?_, ?_⟩
  · cases hy; exact ⟨by rw [List.length_cons]; omega, hty⟩
  rw [hfp]
  refine ⟨by omega, okv_row hgk.nms, ?_⟩
  have hzl : ((zs.map PV.str).length : Int) = zs.length := by rw [List.length_map]
  have hmn : ((zs.map PV.str).length : Int) - (1 + (m : Int)) + (if 2 * (1 + (m : Int)) - at_ < (at_ : Int) then 2 * (1 + (m : Int)) - at_ else (at_ : Int)) = ((os.length + min at_ (f.erow.length - at_) : Nat) : Int) := by
    rw [hzl]
    split <;> omega
  by_cases hdp : g.dp ≤ 100
  · rw [plc_good hgk.nd hgk.nms hdp]
    intro g2 hg2 _
    have := row_inj (strs_inj hg2)
    subst this
    walk_at "wp"
    rw [hmn, if_pos (by apply decide_eq_true; omega)]
    exact eqL_refl (pv_plain g) (pv_lay hgk.nms) (Nat.le_trans (pv_depth (n := 100) hdp) (by decide)) h
  · cases hpl2 : plc ((g.row.map PV.str).map endP) 0 [] [] with
    | none =>
      obtain ⟨g2, h5, h6⟩ := row_of_plcP (okv_row hgk.nms) (by omega) hpl2
      have := row_inj (strs_inj h5)
      subst this
      exact absurd h6.dp hdp
    | some k =>
      refine ⟨true, gg, fun _ => ?_, fun z => by cases z⟩
      walk_at "wp"
      rw [hmn, decide_eq_true (by omega)]
      exact h
theorem plain_law09_r2 {A_BadGaps : Addr} {s2 s3 s4 s5 s6 s7 : Sl} : (X_law_r2 K A_BadGaps).wp (fun _ _ => False) { nx := fun _ => False, rt := fun x => x = .bl true } [.no, .val .deck, s2, s3, s4, s5, s6, s7] := by
  unfold X_law_r2
  walk_at "wp"
  refine ⟨rfl, fun f g => ?_⟩
  walk_at "wp"
  have hrl := row_len f
  have hsz := g.sz
  have hdp := g.dp
  have ok : RowOk f := ⟨g.nd, g.nms, by omega, by omega⟩
  refine ⟨f, rfl, by omega, by omega, ok.ok.short, ?_⟩
  walk_at "wp"
  refine lc_beginsP rfl g.nms (by omega) ?_
  refine ⟨f.nm, rfl, g.nd, by omega, fun cs nc hc => ?_⟩
  walk_at "wp"
  refine ⟨by decide, f, cs, rfl, ok.ok, nc, hc, ?_⟩
  walk_at "wp"
  refine ⟨f, cs, rfl, ok.ok, nc, hc, ?_⟩
  walk_at "wp"
  have hfb : ∀ {post : PV → Prop}, post f.pv → psp_filled A_BadGaps [(f.skel cs).pv, gpv (gapL cs f.erow [])] (fun _ => False) post := fun h => filled_back ok h
  refine hfb ?_
  refine neB_refl (pv_plain f) (pv_lay ok.nms) (Nat.le_trans (pv_depth (n := 40) hdp) (by decide)) ?_
  walk_at "wp"
  refine hfb ?_
  refine ⟨f, cs, rfl, ok.ok, nc, hc, ?_⟩
  walk_at "wp"
  refine neB_refl (pv_plain _) (pv_lay (ok.ok.skel cs).nms) (Nat.le_trans (pv_depth (n := 40) (by have := Fo.dp_skel cs f; omega)) (by decide)) ?_
  walk_at "wp"
  refine hfb ?_
  refine ⟨f, cs, rfl, ok.ok, nc, hc, ?_⟩
  walk_at "wp"
  refine neB_gaps (fun gp hgp z hz => ?_) ?_
  · rcases gapL_mem cs f.erow [] gp hgp z hz with h | ⟨e, he, rfl⟩
    · cases h
    · exact en_ok (g.nms _ (erow_nm f e he))
  walk_at "wp"
  unfold X_law_r1
  walk_at "wp"
  exact ⟨rfl, rfl⟩
theorem plain_law09 {A_BadGaps : Addr} : (X_law K A_BadGaps).wp (fun _ _ => False) { nx := fun _ => False, rt := fun x => x = .bl true } ((List.replicate 8 .no).set 1 (.val .deck)) := by
  unfold X_law
  walk_at "wp"
  refine ⟨8, rfl, by decide, by decide, fun d d0 d1 => ?_⟩
  walk_at "wp"
  split
  · refine ⟨rfl, ?_⟩
    walk_at "wp"
    exact plain_law09_r2
  · exact plain_law09_r2
theorem len_l_wide_right (vs : List V) (H : Hp) (Q : VK) (E : XK) (h : spOf K psp_l_wide_right vs H Q E) : vs.length = 1 := spOf_len (fun _ _ _ h => by obtain ⟨rfl, _⟩ := h; rfl) vs H Q E h
theorem len_l_deep (vs : List V) (H : Hp) (Q : VK) (E : XK) (h : spOf K psp_l_deep vs H Q E) : vs.length = 1 := spOf_len (fun _ _ _ h => by obtain ⟨rfl, _⟩ := h; rfl) vs H Q E h
theorem pure_l_wide_right {C D : Addr} (vs : List V) (H : Hp) (Q : VK) (E : XK) (h : spOf K psp_l_wide_right vs H Q E) : (X_l_wide_right K C D).rd (fun _ => E0) { nx := fun _ H' => Q .non H', rt := Q } (startN 4 vs) H := SS.run0 _ plain_l_wide_right vs H Q E h
theorem pure_l_deep {C : Addr} (gg : PySem.W.exmOne K (.ref C) (.ref C) = some true) (vs : List V) (H : Hp) (Q : VK) (E : XK) (h : spOf K psp_l_deep vs H Q E) : (X_l_deep K C).rd (fun _ => E0) { nx := fun _ H' => Q .non H', rt := Q } (startN 12 vs) H := SS.run0 _ (plain_l_deep gg) vs H Q E h
theorem pure_law {C : Addr} (vs : List V) (H : Hp) (Q : VK) (E : XK) (h : sp_law K vs H Q E) : lawT K 1 (X_law K C) { nx := fun _ H' => Q .non H', rt := Q } (startN 8 vs) H := law_run (by decide) (by decide) plain_law09 vs H Q E h
end
end Tw
set_option Elab.async false
set_option linter.all false
set_option maxRecDepth 100000
set_option maxHeartbeats 0
namespace TwLaw
open PySem PySem.Spec PyProof.Rows L2 Tw
def top (i : Nat) : Stmt := PySem.Challenge.pw_twigscripts_k09_whole_woods_parted_and_p.main.body.getD i (.Pass ⟨0, 0, 0, 0⟩)
abbrev s_is_name : Stmt := top 8
abbrev s_are_unlike_names : Stmt := top 9
abbrev s_row_of : Stmt := top 12
abbrev s_u_is_end : Stmt := top 15
abbrev s_u_bad_place : Stmt := top 14
abbrev s_unchecked_wood : Stmt := top 16
abbrev s_wood_of : Stmt := top 13
abbrev s_parents_of : Stmt := top 17
abbrev s_u_check_there : Stmt := top 18
abbrev s_u_check_names : Stmt := top 21
abbrev s_skeleton_of : Stmt := top 19
abbrev s_gaps_of : Stmt := top 20
abbrev s_u_are_tuples : Stmt := top 23
abbrev s_filled : Stmt := top 22
abbrev s_l_deck : Stmt := top 25
abbrev s_l_wood_of : Stmt := top 26
abbrev s_l_draw : Stmt := top 27
abbrev s_l_wood : Stmt := top 28
abbrev s_l_tall_wood : Stmt := top 29
abbrev s_l_name : Stmt := top 30
abbrev s_l_names : Stmt := top 31
abbrev s_l_wood_and_names : Stmt := top 32
abbrev s_l_some_wood : Stmt := top 33
abbrev s_l_row : Stmt := top 34
abbrev s_l_from_row : Stmt := top 35
abbrev s_l_chosen : Stmt := top 39
abbrev s_l_deep : Stmt := top 40
abbrev s_l_wide_right : Stmt := top 41
abbrev s_law : Stmt := top 42
def inCls (s : Stmt) (i : Nat) : Stmt := match s with
  | .ClassDef _ _ _ b _ _ _ _ _ _ _ => b.getD i (.Pass ⟨0, 0, 0, 0⟩)
  | _ => .Pass ⟨0, 0, 0, 0⟩
abbrev s_BadRow_init : Stmt := inCls (top 4) 0
section
variable {P : Program} {w : World} {K : PySem.W.Frag} {mg : Str → Option Value} {base : Heap}
abbrev N_BadRow_init : List Str := ["self", "place"]
theorem sc_BadRow_init : FnScope N_BadRow_init ["self", "place"] (defScope s_BadRow_init) := ⟨rfl, rfl, rfl, by decide +kernel, rfl, by decide +kernel, by decide +kernel⟩
abbrev s_NoName_init : Stmt := inCls (top 5) 0
theorem ok_BadRow_init {fI : Addr} {fd : FuncData} (F : FunD K "__init__" "BadRow.__init__" (defArgs s_BadRow_init) (defBody s_BadRow_init) (defScope s_BadRow_init) [] [] fI fd) {C : Addr} : FnOk P w K mg base CX0 1 fI fd ["self", "place"] (sp_initG1 K false C "place") := by
  refine F.ok (k := 0) sc_BadRow_init len_initG1 (fun cdv A outer s H vs Q E hr h => ⟨t_initG1 K false "place", PSs.nox ?_, by rw [start_n (n := 2) rfl]; exact pure_initG1 vs H Q E h⟩)
  have nd := sc_BadRow_init.nd
  exact (pss_one (ps_osg (baseOf false) (pv 0) (pv 1)))
abbrev N_NoName_init : List Str := ["self", "name"]
theorem sc_NoName_init : FnScope N_NoName_init ["self", "name"] (defScope s_NoName_init) := ⟨rfl, rfl, rfl, by decide +kernel, rfl, by decide +kernel, by decide +kernel⟩
theorem ok_NoName_init {fI : Addr} {fd : FuncData} (F : FunD K "__init__" "NoName.__init__" (defArgs s_NoName_init) (defBody s_NoName_init) (defScope s_NoName_init) [] [] fI fd) {C : Addr} : FnOk P w K mg base CX0 1 fI fd ["self", "name"] (sp_initG1 K true C "name") := by
  refine F.ok (k := 0) sc_NoName_init len_initG1 (fun cdv A outer s H vs Q E hr h => ⟨t_initG1 K true "name", PSs.nox ?_, by rw [start_n (n := 2) rfl]; exact pure_initG1 vs H Q E h⟩)
  have nd := sc_NoName_init.nd
  exact (pss_one (ps_osg (baseOf true) (pv 0) (pv 1)))
abbrev N_is_name : List Str := ["value"]
theorem sc_is_name : FnScope N_is_name ["value"] (defScope s_is_name) := ⟨rfl, rfl, rfl, by decide +kernel, rfl, by decide +kernel, by decide +kernel⟩
theorem ok_is_name (Dd : Df K mg "is_name" s_is_name) (n_isinstance : mg "isinstance" = none) (n_str : mg "str" = none) (n_len : mg "len" = none) {t__LONGEST : Tok} (g__LONGEST : mg "_LONGEST" = some (.int 8 t__LONGEST)) : Cal P w K mg base CX0 "is_name" ["value"] 1 (sp_is_name K) := by
  refine Dd.cal (k := 0) (N := N_is_name) sc_is_name (fun _ _ _ _ _ _ us hl => match us, hl with | [_], _ => rfl) len_is_name (fun f cdv A outer s H vs Q E hr h => ⟨t_is_name K, PSs.nox ?_, by rw [start_n (n := 1) rfl]; exact pure_is_name vs H Q E h⟩)
  have nd := sc_is_name.nd
  exact (pss_cons (ps_if (PW.pt (pw_or (pt_not (pt_val (pe_isiB n_isinstance n_str (pv 0)))) (pw_or1 (pt_cmpR op_gt (pe_callB call_len_str (by rfl) n_len (by decide +kernel) (pa_cons (pv 0) pa_nil)) (pe_glob (by rfl) g__LONGEST ⟨_, rfl⟩) (nomark _))))) (pss_one (ps_ret pe_bl)) pss_nil)
      (pss_one (ps_ret (pe_and (pe_m0 PySem.F.slot_str_isascii PySem.F.type_str_isascii mt_isascii (pv 0)) (pe_and (pe_m0 PySem.F.slot_str_isalpha PySem.F.type_str_isalpha mt_isalpha (pv 0)) (pe_one (pe_m0 PySem.F.slot_str_islower PySem.F.type_str_islower mt_islower (pv 0))))))))
abbrev N_are_unlike_names : List Str := ["value", "item"]
theorem sc_are_unlike_names : FnScope N_are_unlike_names ["value"] (defScope s_are_unlike_names) := ⟨rfl, rfl, rfl, by decide +kernel, rfl, by decide +kernel, by decide +kernel⟩
theorem ok_are_unlike_names (Dd : Df K mg "are_unlike_names" s_are_unlike_names) (n_isinstance : mg "isinstance" = none) (n_tuple : mg "tuple" = none) (n_all : mg "all" = none) (n_len : mg "len" = none) (n_set : mg "set" = none) (C_is_name : Cal P w K mg base CX0 "is_name" ["value"] 1 (sp_is_name K)) : Cal P w K mg base CX0 "are_unlike_names" ["value"] 2 (sp_are_unlike_names K) := by
  refine Dd.cal (k := 1) (N := N_are_unlike_names) sc_are_unlike_names (fun _ _ _ _ _ _ us hl => match us, hl with | [_], _ => rfl) len_are_unlike_names (fun f cdv A outer s H vs Q E hr h => ⟨t_are_unlike_names K, PSs.nox ?_, by rw [start_n (n := 2) rfl]; exact pure_are_unlike_names vs H Q E h⟩)
  have nd := sc_are_unlike_names.nd
  exact (pss_cons (ps_if (PW.pt (pw_or (pt_not (pt_val (pe_isiB n_isinstance n_tuple (pv 0)))) (pw_or1 (pt_not (pt_val (pe_callB (cr_all (by rfl)) (by rfl) n_all (by decide +kernel) (pa_cons (pe_lc (own := [("item", 1)]) (g := gName 1) (by rfl) nd (pi_tup (pv 0)) (blkOk_by (own := [("item", 1)]) (N := N_are_unlike_names) (sc := defScope s_are_unlike_names) (by decide +kernel)) (fun _ _ _ _ _ => pg_name (i := 1) nd rfl (Or.inl rfl)) (fun _ _ _ _ _ => pts_nil) (fun _ _ _ _ _ => (pe_cal C_is_name (hr.mono (by omega)) (by rfl) pass0 (pa_cons (pv 1) pa_nil)))) pa_nil))))))) (pss_one (ps_ret pe_bl)) pss_nil)
      (pss_one (ps_ret (pe_cmpR op_eq (pe_lenSetT n_len n_set (pv 0)) (pe_callB call_len_seq (by rfl) n_len (by decide +kernel) (pa_cons (pv 0) pa_nil)) (nomark _)))))
abbrev N_row_of : List Str := ["wood", "row", "todo", "item", "name", "inside"]
theorem sc_row_of : FnScope N_row_of ["wood"] (defScope s_row_of) := ⟨rfl, rfl, rfl, by decide +kernel, rfl, by decide +kernel, by decide +kernel⟩
theorem ok_row_of (Dd : Df K mg "row_of" s_row_of) (n_list : mg "list" = none) (n_isinstance : mg "isinstance" = none) (n_str : mg "str" = none) (n_tuple : mg "tuple" = none) : Cal P w K mg base CX0 "row_of" ["wood"] 1 (sp_row_of K) := by
  refine Dd.cal (k := 0) (N := N_row_of) sc_row_of (fun _ _ _ _ _ _ us hl => match us, hl with | [_], _ => rfl) len_row_of (fun f cdv A outer s H vs Q E hr h => ⟨t_row_of K, PSs.nox ?_, by rw [start_n (n := 6) rfl]; exact pure_row_of vs H Q E h⟩)
  have nd := sc_row_of.nd
  exact (pss_cons (ps_set (i := 1) nd rfl (Or.inl rfl) (pe_lst pa_nil))
      (pss_cons (ps_set (i := 2) nd rfl (Or.inl rfl) (pe_callTy call_list_of (by rfl) n_list (by decide +kernel) (pa_cons (pe_revT (pv 0)) pa_nil)))
      (pss_cons (ps_while PassesOwn.never (pt_truth (pv 2) (by intro _; rfl))
      (pss_cons (ps_set (i := 3) nd rfl (Or.inl rfl) (pe_bm0 PySem.F.plainAttrs_list PySem.F.slot_list_pop PySem.F.type_list_pop mt_pop (pv 2)))
      (pss_one (ps_if (pt_val (pe_isiB n_isinstance n_str (pv 3))) (pss_one (ps_expr (pe_bm PySem.F.plainAttrs_list PySem.F.slot_list_append PySem.F.type_list_append mt_append (pv 1) (pa_cons (pv 3) pa_nil)))) (pss_cons (ps_asg (pv 3) (pg_tup rfl (pgs_cons (pg_name (i := 4) nd rfl (Or.inl rfl)) (pgs_cons (pg_name (i := 5) nd rfl (Or.inl rfl)) pgs_nil))))
      (pss_cons (ps_expr (pe_bm PySem.F.plainAttrs_list PySem.F.slot_list_append PySem.F.type_list_append mt_append (pv 1) (pa_cons (pe_joined (.cons pe_str (.cons (pe_fmt (pv 4)) .nil))) pa_nil)))
      (pss_cons (ps_expr (pe_bm PySem.F.plainAttrs_list PySem.F.slot_list_append PySem.F.type_list_append mt_append (pv 2) (pa_cons (pe_joined (.cons pe_str (.cons (pe_fmt (pv 4)) .nil))) pa_nil)))
      (pss_one (ps_expr (pe_bm PySem.F.plainAttrs_list PySem.F.slot_list_extend PySem.F.type_list_extend mt_extendT (pv 2) (pa_cons (pe_revT (pv 5)) pa_nil)))))))))))
      (pss_one (ps_ret (pe_callTy call_tuple_of (by rfl) n_tuple (by decide +kernel) (pa_cons (pv 1) pa_nil)))))))
abbrev N_u_is_end : List Str := ["value"]
theorem sc_u_is_end : FnScope N_u_is_end ["value"] (defScope s_u_is_end) := ⟨rfl, rfl, rfl, by decide +kernel, rfl, by decide +kernel, by decide +kernel⟩
theorem ok_u_is_end (Dd : Df K mg "_is_end" s_u_is_end) (n_isinstance : mg "isinstance" = none) (n_str : mg "str" = none) (C_is_name : Cal P w K mg base CX0 "is_name" ["value"] 1 (sp_is_name K)) : Cal P w K mg base CX0 "_is_end" ["value"] 2 (sp_u_is_end K) := by
  refine Dd.cal (k := 1) (N := N_u_is_end) sc_u_is_end (fun _ _ _ _ _ _ us hl => match us, hl with | [_], _ => rfl) len_u_is_end (fun f cdv A outer s H vs Q E hr h => ⟨t_u_is_end K, PSs.nox ?_, by rw [start_n (n := 1) rfl]; exact pure_u_is_end vs H Q E h⟩)
  have nd := sc_u_is_end.nd
  exact (pss_one (ps_ret (pe_and (pe_isiB n_isinstance n_str (pv 0)) (pe_and (pe_cmpR op_in_seq (pe_slice sl_str (pv 0) po_none (po_some pe_int)) (pe_tup (pa_cons pe_str (pa_cons pe_str pa_nil))) (by rfl)) (pe_one (pe_cal C_is_name (hr.mono (by omega)) (by rfl) pass0 (pa_cons (pe_slice sl_str (pv 0) (po_some pe_int) po_none) pa_nil)))))))
abbrev N_u_bad_place : List Str := ["row", "seen", "around", "place", "end", "name"]
theorem sc_u_bad_place : FnScope N_u_bad_place ["row"] (defScope s_u_bad_place) := ⟨rfl, rfl, rfl, by decide +kernel, rfl, by decide +kernel, by decide +kernel⟩
theorem ok_u_bad_place (Dd : Df K mg "_bad_place" s_u_bad_place) (n_enumerate : mg "enumerate" = none) (n_len : mg "len" = none) {t__MOST_AROUND : Tok} (g__MOST_AROUND : mg "_MOST_AROUND" = some (.int 100 t__MOST_AROUND)) (C_u_is_end : Cal P w K mg base CX0 "_is_end" ["value"] 2 (sp_u_is_end K)) : Cal P w K mg base CX0 "_bad_place" ["row"] 3 (sp_u_bad_placeG K) := by
  refine Dd.cal (k := 2) (N := N_u_bad_place) sc_u_bad_place (fun _ _ _ _ _ _ us hl => match us, hl with | [_], _ => rfl) len_u_bad_placeG (fun f cdv A outer s H vs Q E hr h => ⟨t_u_bad_place K, PSs.nox ?_, by rw [start_n (n := 6) rfl]; exact pure_u_bad_placeG vs H Q E h⟩)
  have nd := sc_u_bad_place.nd
  exact (pss_cons (ps_set (i := 1) nd rfl (Or.inl rfl) pe_dnewK)
      (pss_cons (ps_set (i := 2) nd rfl (Or.inl rfl) (pe_lst pa_nil))
      (pss_cons (ps_for PassesOwn.never (by rfl) (pi_enumT (by rfl) n_enumerate (pa_cons (pv 0) pa_nil)) (pg_tup rfl (pgs_cons (pg_name (i := 3) nd rfl (Or.inl rfl)) (pgs_cons (pg_name (i := 4) nd rfl (Or.inl rfl)) pgs_nil)))
      (pss_cons (ps_if (pt_not (pt_val (pe_cal C_u_is_end (hr.mono (by omega)) (by rfl) pass0 (pa_cons (pv 4) pa_nil)))) (pss_one (ps_ret (pv 3))) pss_nil)
      (pss_cons (ps_set (i := 5) nd rfl (Or.inl rfl) (pe_slice sl_str (pv 4) (po_some pe_int) po_none))
      (pss_one (ps_if (pt_cmpR op_eq (pe_ix ix_str (pv 4) pe_int (fun _ _ => rfl)) pe_str (nomark _)) (pss_cons (ps_if (PW.pt (pw_or (pt_cmp (pc_din (hu_of hr) (pv 5) (pv 1))) (pw_or1 (pt_cmpR op_eq (pe_callB call_len_seq (by rfl) n_len (by decide +kernel) (pa_cons (pv 2) pa_nil)) (pe_glob (by rfl) g__MOST_AROUND ⟨_, rfl⟩) (nomark _))))) (pss_one (ps_ret (pv 3))) pss_nil)
      (pss_cons (ps_dput (hu_of hr) (pv 1) (pv 5) pe_bl rfl)
      (pss_one (ps_expr (pe_bm PySem.F.plainAttrs_list PySem.F.slot_list_append PySem.F.type_list_append mt_append (pv 2) (pa_cons (pv 5) pa_nil)))))) (pss_cons (ps_if (pt_cmpR (op_neB hr) (pe_slice sl_list (pv 2) (po_some (pe_un un_neg pe_int)) po_none) (pe_lst (pa_cons (pv 5) pa_nil)) (nomark _)) (pss_one (ps_ret (pv 3))) pss_nil)
      (pss_one (ps_expr (pe_bm0 PySem.F.plainAttrs_list PySem.F.slot_list_pop PySem.F.type_list_pop mt_pop (pv 2))))))))))
      (pss_one (ps_ret (pe_ifExp (pt_truth (pv 2) (by intro _; rfl)) (pe_callB call_len_seq (by rfl) n_len (by decide +kernel) (pa_cons (pv 0) pa_nil)) pe_non))))))
abbrev N_unchecked_wood : List Str := ["row", "done", "begins", "end", "begin"]
theorem sc_unchecked_wood : FnScope N_unchecked_wood ["row"] (defScope s_unchecked_wood) := ⟨rfl, rfl, rfl, by decide +kernel, rfl, by decide +kernel, by decide +kernel⟩
theorem ok_unchecked_wood (Dd : Df K mg "unchecked_wood" s_unchecked_wood) (n_len : mg "len" = none) (n_tuple : mg "tuple" = none) : Cal P w K mg base CX0 "unchecked_wood" ["row"] 1 (sp_unchecked_wood K) := by
  refine Dd.cal (k := 0) (N := N_unchecked_wood) sc_unchecked_wood (fun _ _ _ _ _ _ us hl => match us, hl with | [_], _ => rfl) len_unchecked_wood (fun f cdv A outer s H vs Q E hr h => ⟨t_unchecked_wood K, PSs.nox ?_, by rw [start_n (n := 5) rfl]; exact pure_unchecked_wood vs H Q E h⟩)
  have nd := sc_unchecked_wood.nd
  exact (pss_cons (ps_set (i := 1) nd rfl (Or.inl rfl) (pe_lst pa_nil))
      (pss_cons (ps_set (i := 2) nd rfl (Or.inl rfl) (pe_lst pa_nil))
      (pss_cons (ps_for PassesOwn.never (by rfl) (pi_seq (pv 0)) (pg_name (i := 3) nd rfl (Or.inl rfl))
      (pss_one (ps_if (pt_cmpR op_eq (pe_ix ix_str (pv 3) pe_int (fun _ _ => rfl)) pe_str (nomark _)) (pss_one (ps_expr (pe_bm PySem.F.plainAttrs_list PySem.F.slot_list_append PySem.F.type_list_append mt_append (pv 2) (pa_cons (pe_callB call_len_seq (by rfl) n_len (by decide +kernel) (pa_cons (pv 1) pa_nil)) pa_nil)))) (pss_cons (ps_set (i := 4) nd rfl (Or.inl rfl) (pe_bm0 PySem.F.plainAttrs_list PySem.F.slot_list_pop PySem.F.type_list_pop mt_pop (pv 2)))
      (pss_one (ps_asg (pe_lst (pa_cons (pe_tup (pa_cons (pe_slice sl_str (pv 3) (po_some pe_int) po_none) (pa_cons (pe_callTy call_tuple_of (by rfl) n_tuple (by decide +kernel) (pa_cons (pe_slice sl_list (pv 1) (po_some (pv 4)) po_none) pa_nil)) pa_nil))) pa_nil)) (pg_from (pv 1) (pv 4) (by intro _; rfl))))))))
      (pss_one (ps_ret (pe_callTy call_tuple_of (by rfl) n_tuple (by decide +kernel) (pa_cons (pv 1) pa_nil)))))))
abbrev N_wood_of : List Str := ["value", "place"]
theorem sc_wood_of : FnScope N_wood_of ["value"] (defScope s_wood_of) := ⟨rfl, rfl, rfl, by decide +kernel, rfl, by decide +kernel, by decide +kernel⟩
theorem ok_wood_of (Dd : Df K mg "wood_of" s_wood_of) {A_TwigError A_BadGaps A_BadNames A_BadRow A_NoName : Addr} (g_TwigError : mg "TwigError" = some (.ref A_TwigError)) (g_BadGaps : mg "BadGaps" = some (.ref A_BadGaps)) (g_BadNames : mg "BadNames" = some (.ref A_BadNames)) (g_BadRow : mg "BadRow" = some (.ref A_BadRow)) (g_NoName : mg "NoName" = some (.ref A_NoName)) (c_TwigError : ClsB K mg "TwigError" A_TwigError) (c_BadGaps : ClsB K mg "BadGaps" A_BadGaps) (c_BadNames : ClsB K mg "BadNames" A_BadNames) (c_BadRow : ClsH P w K mg base "BadRow" ["place"] false (sp_initG1 K false A_BadRow "place") A_BadRow 1) (c_NoName : ClsH P w K mg base "NoName" ["name"] true (sp_initG1 K true A_NoName "name") A_NoName 1) (cf : Cf09 K A_TwigError A_BadGaps A_BadNames A_BadRow A_NoName) (n_isinstance : mg "isinstance" = none) (n_tuple : mg "tuple" = none) (C_u_bad_place : Cal P w K mg base CX0 "_bad_place" ["row"] 3 (sp_u_bad_placeG K)) (C_unchecked_wood : Cal P w K mg base CX0 "unchecked_wood" ["row"] 1 (sp_unchecked_wood K)) : Cal P w K mg base (L2N.CX P w) "wood_of" ["value"] 4 (spOf K (psp_wood_of A_BadRow)) := by
  refine Dd.cal (k := 3) (N := N_wood_of) sc_wood_of (fun _ _ _ _ _ _ us hl => match us, hl with | [_], _ => rfl) len_wood_ofP (fun f cdv A outer s H vs Q E hr h => ⟨(X_wood_of K A_BadRow).rd (fun _ => E), ?_, by rw [start_n (n := 2) rfl]; exact pure_wood_ofP vs H Q E h⟩)
  have nd := sc_wood_of.nd
  have tk : L2N.Takes (cxOf (L2N.CX P w) P w K mg base N_wood_of "wood_of" (defScope s_wood_of) f cdv A outer s H E) (fun cls d _ H => E cls d H) := L2N.takes_of rfl rfl rfl rfl
  exact (show PSs _ _ (tSeq (tIfS (tNot (tB (tIsi K "tuple" (tVar 0)))) (tRaise E (tMk1 A_BadRow "place" (tC .non))) tNext)
  (tSeq (tAsg (tCall (sp_u_bad_placeG K) [] E0 (tCons (tVar 0) tNil)) (gName 1))
  (tSeq (tIfS (tB (tNotN (tVar 1))) (tRaise E (tMk1 A_BadRow "place" (tVar 1))) tNext)
  (tRet (tCall (sp_unchecked_wood K) [] E0 (tCons (tVar 0) tNil)))))) from (pss_cons (ps_if (pt_not (pt_val (pe_isiB n_isinstance n_tuple (pv 0)))) (pss_one (ps_rz5N rfl tk (pmk5_H1 c_BadRow (hr.mono (by omega)) (by rfl) pe_non mono_c))) pss_nil)
      (pss_cons (ps_set (i := 1) nd rfl (Or.inl rfl) (pe_cal C_u_bad_place (hr.mono (by omega)) (by rfl) pass0 (pa_cons (pv 0) pa_nil)))
      (pss_cons (ps_if (pt_cmp (pc_notN (pv 1))) (pss_one (ps_rz5N rfl tk (pmk5_H1 c_BadRow (hr.mono (by omega)) (by rfl) (pv 1) mono_var))) pss_nil)
      (pss_one (ps_ret (pe_cal C_unchecked_wood (hr.mono (by omega)) (by rfl) pass0 (pa_cons (pv 0) pa_nil))))))))
abbrev N_parents_of : List Str := ["wood", "parents", "around", "end"]
theorem sc_parents_of : FnScope N_parents_of ["wood"] (defScope s_parents_of) := ⟨rfl, rfl, rfl, by decide +kernel, rfl, by decide +kernel, by decide +kernel⟩
theorem ok_parents_of (Dd : Df K mg "parents_of" s_parents_of) (C_row_of : Cal P w K mg base CX0 "row_of" ["wood"] 1 (sp_row_of K)) : Cal P w K mg base CX0 "parents_of" ["wood"] 2 (sp_parents_of K) := by
  refine Dd.cal (k := 1) (N := N_parents_of) sc_parents_of (fun _ _ _ _ _ _ us hl => match us, hl with | [_], _ => rfl) len_parents_of (fun f cdv A outer s H vs Q E hr h => ⟨t_parents_of K, PSs.nox ?_, by rw [start_n (n := 4) rfl]; exact pure_parents_of vs H Q E h⟩)
  have nd := sc_parents_of.nd
  exact (pss_cons (ps_set (i := 1) nd rfl (Or.inl rfl) pe_dnewK)
      (pss_cons (ps_set (i := 2) nd rfl (Or.inl rfl) (pe_lst (pa_cons pe_non pa_nil)))
      (pss_cons (ps_for PassesOwn.never (by rfl) (pi_tup (pe_cal C_row_of (hr.mono (by omega)) (by rfl) pass0 (pa_cons (pv 0) pa_nil))) (pg_name (i := 3) nd rfl (Or.inl rfl))
      (pss_one (ps_if (pt_cmpR op_eq (pe_ix ix_str (pv 3) pe_int (fun _ _ => rfl)) pe_str (nomark _)) (pss_cons (ps_dput (hu_of hr) (pv 1) (pe_slice sl_str (pv 3) (po_some pe_int) po_none) (pe_ix ix_list (pv 2) (pe_un un_neg pe_int) (fun _ _ => rfl)) rfl)
      (pss_one (ps_expr (pe_bm PySem.F.plainAttrs_list PySem.F.slot_list_append PySem.F.type_list_append mt_append (pv 2) (pa_cons (pe_slice sl_str (pv 3) (po_some pe_int) po_none) pa_nil))))) (pss_one (ps_expr (pe_bm0 PySem.F.plainAttrs_list PySem.F.slot_list_pop PySem.F.type_list_pop mt_pop (pv 2)))))))
      (pss_one (ps_ret (pv 1))))))
abbrev N_u_check_there : List Str := ["parents", "names", "name"]
theorem sc_u_check_there : FnScope N_u_check_there ["parents", "names"] (defScope s_u_check_there) := ⟨rfl, rfl, rfl, by decide +kernel, rfl, by decide +kernel, by decide +kernel⟩
theorem ok_u_check_there (Dd : Df K mg "_check_there" s_u_check_there) (n_isinstance : mg "isinstance" = none) (n_str : mg "str" = none) : Cal P w K mg base CX0 "_check_there" ["parents", "names"] 1 (sp_u_check_there K) := by
  refine Dd.cal (k := 0) (N := N_u_check_there) sc_u_check_there (fun _ _ _ _ _ _ us hl => match us, hl with | [_, _], _ => rfl) len_u_check_there (fun f cdv A outer s H vs Q E hr h => ⟨t_u_check_there K, PSs.nox ?_, by rw [start_n (n := 3) rfl]; exact pure_u_check_there vs H Q E h⟩)
  have nd := sc_u_check_there.nd
  exact (pss_one (ps_for PassesOwn.never (by rfl) (pi_tup (pv 1)) (pg_name (i := 2) nd rfl (Or.inl rfl))
      (pss_one (ps_if (PW.pt (pw_or (pt_not (pt_val (pe_isiB n_isinstance n_str (pv 2)))) (pw_or1 (pt_cmp (pc_dnotin (hu_of hr) (pv 2) (pv 0)))))) (pss_one ps_never) pss_nil))))
abbrev N_u_check_names : List Str := ["wood", "names"]
theorem sc_u_check_names : FnScope N_u_check_names ["wood", "names"] (defScope s_u_check_names) := ⟨rfl, rfl, rfl, by decide +kernel, rfl, by decide +kernel, by decide +kernel⟩
theorem ok_u_check_names (Dd : Df K mg "_check_names" s_u_check_names) (C_are_unlike_names : Cal P w K mg base CX0 "are_unlike_names" ["value"] 2 (sp_are_unlike_names K)) (C_u_check_there : Cal P w K mg base CX0 "_check_there" ["parents", "names"] 1 (sp_u_check_there K)) (C_parents_of : Cal P w K mg base CX0 "parents_of" ["wood"] 2 (sp_parents_of K)) : Cal P w K mg base CX0 "_check_names" ["wood", "names"] 3 (sp_u_check_names K) := by
  refine Dd.cal (k := 2) (N := N_u_check_names) sc_u_check_names (fun _ _ _ _ _ _ us hl => match us, hl with | [_, _], _ => rfl) len_u_check_names (fun f cdv A outer s H vs Q E hr h => ⟨t_u_check_names K, PSs.nox ?_, by rw [start_n (n := 2) rfl]; exact pure_u_check_names vs H Q E h⟩)
  have nd := sc_u_check_names.nd
  exact (pss_cons (ps_if (pt_not (pt_val (pe_cal C_are_unlike_names (hr.mono (by omega)) (by rfl) pass0 (pa_cons (pv 1) pa_nil)))) (pss_one ps_never) pss_nil)
      (pss_one (ps_expr (pe_cal C_u_check_there (hr.mono (by omega)) (by rfl) pass0 (pa_cons (pe_cal C_parents_of (hr.mono (by omega)) (by rfl) pass0 (pa_cons (pv 0) pa_nil)) (pa_cons (pv 1) pa_nil))))))
abbrev N_skeleton_of : List Str := ["wood", "names", "end"]
theorem sc_skeleton_of : FnScope N_skeleton_of ["wood", "names"] (defScope s_skeleton_of) := ⟨rfl, rfl, rfl, by decide +kernel, rfl, by decide +kernel, by decide +kernel⟩
theorem ok_skeleton_of (Dd : Df K mg "skeleton_of" s_skeleton_of) (C_u_check_names : Cal P w K mg base CX0 "_check_names" ["wood", "names"] 3 (sp_u_check_names K)) (C_unchecked_wood : Cal P w K mg base CX0 "unchecked_wood" ["row"] 1 (sp_unchecked_wood K)) (C_row_of : Cal P w K mg base CX0 "row_of" ["wood"] 1 (sp_row_of K)) : Cal P w K mg base CX0 "skeleton_of" ["wood", "names"] 4 (sp_skeleton_of K) := by
  refine Dd.cal (k := 3) (N := N_skeleton_of) sc_skeleton_of (fun _ _ _ _ _ _ us hl => match us, hl with | [_, _], _ => rfl) len_skeleton_of (fun f cdv A outer s H vs Q E hr h => ⟨t_skeleton_of K, PSs.nox ?_, by rw [start_n (n := 3) rfl]; exact pure_skeleton_of vs H Q E h⟩)
  have nd := sc_skeleton_of.nd
  exact (pss_cons (ps_expr (pe_cal C_u_check_names (hr.mono (by omega)) (by rfl) pass0 (pa_cons (pv 0) (pa_cons (pv 1) pa_nil))))
      (pss_one (ps_ret (pe_cal C_unchecked_wood (hr.mono (by omega)) (by rfl) pass0 (pa_cons (pe_lc (own := [("end", 2)]) (g := gName 2) (by rfl) nd (pi_tup (pe_cal C_row_of (hr.mono (by omega)) (by rfl) pass0 (pa_cons (pv 0) pa_nil))) (blkOk_by (own := [("end", 2)]) (N := N_skeleton_of) (sc := defScope s_skeleton_of) (by decide +kernel)) (fun _ _ _ _ _ => pg_name (i := 2) nd rfl (Or.inl rfl)) (fun _ _ _ _ _ => (pts_one (pt_cmpR op_in_seq (pe_slice sl_str (pv 2) (po_some pe_int) po_none) (pv 1) (by rfl)))) (fun _ _ _ _ _ => (pv 2))) pa_nil)))))
abbrev N_gaps_of : List Str := ["wood", "names", "gaps", "gap", "end"]
theorem sc_gaps_of : FnScope N_gaps_of ["wood", "names"] (defScope s_gaps_of) := ⟨rfl, rfl, rfl, by decide +kernel, rfl, by decide +kernel, by decide +kernel⟩
theorem ok_gaps_of (Dd : Df K mg "gaps_of" s_gaps_of) (n_tuple : mg "tuple" = none) (C_u_check_names : Cal P w K mg base CX0 "_check_names" ["wood", "names"] 3 (sp_u_check_names K)) (C_row_of : Cal P w K mg base CX0 "row_of" ["wood"] 1 (sp_row_of K)) : Cal P w K mg base CX0 "gaps_of" ["wood", "names"] 4 (sp_gaps_of K) := by
  refine Dd.cal (k := 3) (N := N_gaps_of) sc_gaps_of (fun _ _ _ _ _ _ us hl => match us, hl with | [_, _], _ => rfl) len_gaps_of (fun f cdv A outer s H vs Q E hr h => ⟨t_gaps_of K, PSs.nox ?_, by rw [start_n (n := 5) rfl]; exact pure_gaps_of vs H Q E h⟩)
  have nd := sc_gaps_of.nd
  exact (pss_cons (ps_expr (pe_cal C_u_check_names (hr.mono (by omega)) (by rfl) pass0 (pa_cons (pv 0) (pa_cons (pv 1) pa_nil))))
      (pss_cons (ps_set (i := 2) nd rfl (Or.inl rfl) (pe_lst pa_nil))
      (pss_cons (ps_set (i := 3) nd rfl (Or.inl rfl) (pe_lst pa_nil))
      (pss_cons (ps_for PassesOwn.never (by rfl) (pi_tup (pe_cal C_row_of (hr.mono (by omega)) (by rfl) pass0 (pa_cons (pv 0) pa_nil))) (pg_name (i := 4) nd rfl (Or.inl rfl))
      (pss_one (ps_if (pt_cmpR op_in_seq (pe_slice sl_str (pv 4) (po_some pe_int) po_none) (pv 1) (by rfl)) (pss_cons (ps_expr (pe_bm PySem.F.plainAttrs_list PySem.F.slot_list_append PySem.F.type_list_append mt_append (pv 2) (pa_cons (pe_callTy call_tuple_of (by rfl) n_tuple (by decide +kernel) (pa_cons (pv 3) pa_nil)) pa_nil)))
      (pss_one (ps_set (i := 3) nd rfl (Or.inl rfl) (pe_lst pa_nil)))) (pss_one (ps_expr (pe_bm PySem.F.plainAttrs_list PySem.F.slot_list_append PySem.F.type_list_append mt_append (pv 3) (pa_cons (pv 4) pa_nil)))))))
      (pss_cons (ps_expr (pe_bm PySem.F.plainAttrs_list PySem.F.slot_list_append PySem.F.type_list_append mt_append (pv 2) (pa_cons (pe_callTy call_tuple_of (by rfl) n_tuple (by decide +kernel) (pa_cons (pv 3) pa_nil)) pa_nil)))
      (pss_one (ps_ret (pe_callTy call_tuple_of (by rfl) n_tuple (by decide +kernel) (pa_cons (pv 2) pa_nil)))))))))
abbrev N_u_are_tuples : List Str := ["value", "many", "item"]
theorem sc_u_are_tuples : FnScope N_u_are_tuples ["value", "many"] (defScope s_u_are_tuples) := ⟨rfl, rfl, rfl, by decide +kernel, rfl, by decide +kernel, by decide +kernel⟩
theorem ok_u_are_tuples (Dd : Df K mg "_are_tuples" s_u_are_tuples) (n_isinstance : mg "isinstance" = none) (n_tuple : mg "tuple" = none) (n_len : mg "len" = none) (n_all : mg "all" = none) : Cal P w K mg base CX0 "_are_tuples" ["value", "many"] 1 (spOf K psp_u_are_tuples) := by
  refine Dd.cal (k := 0) (N := N_u_are_tuples) sc_u_are_tuples (fun _ _ _ _ _ _ us hl => match us, hl with | [_, _], _ => rfl) len_u_are_tuples (fun f cdv A outer s H vs Q E hr h => ⟨(X_u_are_tuples K).rd (fun _ => E0), PSs.nox ?_, by rw [start_n (n := 3) rfl]; exact pure_u_are_tuples vs H Q E h⟩)
  have nd := sc_u_are_tuples.nd
  exact (show PSs _ _ (tSeq (tIfS (tOr (tNot (tB (tIsi K "tuple" (tVar 0)))) (tTest (tOp rNe (tCB (rLenSeq K) (tCons (tVar 0) tNil)) (tVar 1)))) (tRet (tC (.bl false))) tNext)
  (tRet (tCB (rAll K) (tCons (tLc (iTup K (tVar 0)) (gName 2) tYes (tIsi K "tuple" (tVar 2)) [2]) tNil)))) from (pss_cons (ps_if (PW.pt (pw_or (pt_not (pt_val (pe_isiB n_isinstance n_tuple (pv 0)))) (pw_or1 (pt_cmpR op_ne (pe_callB call_len_seq (by rfl) n_len (by decide +kernel) (pa_cons (pv 0) pa_nil)) (pv 1) (nomark _))))) (pss_one (ps_ret pe_bl)) pss_nil)
      (pss_one (ps_ret (pe_callB (cr_all (by rfl)) (by rfl) n_all (by decide +kernel) (pa_cons (pe_lc (own := [("item", 2)]) (g := gName 2) (by rfl) nd (pi_tup (pv 0)) (blkOk_by (own := [("item", 2)]) (N := N_u_are_tuples) (sc := defScope s_u_are_tuples) (by decide +kernel)) (fun _ _ _ _ _ => pg_name (i := 2) nd rfl (Or.inl rfl)) (fun _ _ _ _ _ => pts_nil) (fun _ _ _ _ _ => (pe_isiB n_isinstance n_tuple (pv 2)))) pa_nil))))))
abbrev N_filled : List Str := ["wood", "value", "row", "ends", "end", "gap"]
theorem sc_filled : FnScope N_filled ["wood", "value"] (defScope s_filled) := ⟨rfl, rfl, rfl, by decide +kernel, rfl, by decide +kernel, by decide +kernel⟩
theorem ok_filled (Dd : Df K mg "filled" s_filled) {A_TwigError A_BadGaps A_BadNames A_BadRow A_NoName : Addr} (g_TwigError : mg "TwigError" = some (.ref A_TwigError)) (g_BadGaps : mg "BadGaps" = some (.ref A_BadGaps)) (g_BadNames : mg "BadNames" = some (.ref A_BadNames)) (g_BadRow : mg "BadRow" = some (.ref A_BadRow)) (g_NoName : mg "NoName" = some (.ref A_NoName)) (c_TwigError : ClsB K mg "TwigError" A_TwigError) (c_BadGaps : ClsB K mg "BadGaps" A_BadGaps) (c_BadNames : ClsB K mg "BadNames" A_BadNames) (c_BadRow : ClsH P w K mg base "BadRow" ["place"] false (sp_initG1 K false A_BadRow "place") A_BadRow 1) (c_NoName : ClsH P w K mg base "NoName" ["name"] true (sp_initG1 K true A_NoName "name") A_NoName 1) (cf : Cf09 K A_TwigError A_BadGaps A_BadNames A_BadRow A_NoName) (n_len : mg "len" = none) (n_list : mg "list" = none) (n_zip : mg "zip" = none) (n_tuple : mg "tuple" = none) (C_row_of : Cal P w K mg base CX0 "row_of" ["wood"] 1 (sp_row_of K)) (C_u_are_tuples : Cal P w K mg base CX0 "_are_tuples" ["value", "many"] 1 (spOf K psp_u_are_tuples)) (C_wood_of : Cal P w K mg base (L2N.CX P w) "wood_of" ["value"] 4 (spOf K (psp_wood_of A_BadRow))) : Cal P w K mg base (L2.CX P w) "filled" ["wood", "value"] 5 (spOf K (psp_filled A_BadGaps)) := by
  refine Dd.cal (k := 4) (N := N_filled) sc_filled (fun _ _ _ _ _ _ us hl => match us, hl with | [_, _], _ => rfl) len_filled (fun f cdv A outer s H vs Q E hr h => ⟨(X_filled K A_BadGaps A_BadRow).rd (fun _ => E), ?_, by rw [start_n (n := 6) rfl]; exact pure_filled cf.rr vs H Q E h⟩)
  have nd := sc_filled.nd
  have tk : Takes (cxOf (L2.CX P w) P w K mg base N_filled "filled" (defScope s_filled) f cdv A outer s H E) (fun cls d _ H => E cls d H) := takes_of rfl rfl rfl rfl
  exact (show PSs _ _ (tSeq (tAsg (tCall (sp_row_of K) [] E0 (tCons (tVar 0) tNil)) (gName 2))
  (tSeq (tIfS (tNot (tB (tCall (spOf K psp_u_are_tuples) [] E0 (tCons (tVar 1) (tCons (tOp (rI0 fun i j => .int (i + j)) (tCB (rLenSeq K) (tCons (tVar 2) tNil)) (tC (.int 1))) tNil))))) (tRaise E (fun _ H Q => Q (.ref A_BadGaps) none H)) tNext)
  (tSeq (tAsg (tCB (rListOf K) (tCons (tOp (rIxT K) (tVar 1) (tC (.int 0))) tNil)) (gName 3))
  (tSeq (tFor (RZ.iZipA K (tCons (tVar 2) (tCons (L2.tSl (rSlA K) (tVar 1) (tPart (tC (.int 1))) tNoPart) tNil))) (gTup K 2 (gCons (gName 4) (gCons (gName 5) gNil)))
  (tSeq (tDrop (tBM K "list" rAppend (tVar 3) (tCons (tVar 4) tNil)))
  (tDrop (tBM K "list" (rExtendT K) (tVar 3) (tCons (tVar 5) tNil)))))
  (fun D σ H => (fun W => (tRet (tCallS (spOf K (psp_wood_of A_BadRow)) (fun σ => WE W σ) (tCons (tCB (rTupleOf K) (tCons (tVar 3) tNil)) tNil)))) (wOnly K (.ref A_BadRow) (fun a cls d => (tRaise E (fun _ H Q => Q (.ref A_BadGaps) none H))) (fun cls d _ H => E cls d H) D) D σ H))))) from (pss_cons (ps_set (i := 2) nd rfl (Or.inl rfl) (pe_cal C_row_of (hr.mono (by omega)) (by rfl) pass0 (pa_cons (pv 0) pa_nil)))
      (pss_cons (ps_if (pt_not (pt_val (pe_cal C_u_are_tuples (hr.mono (by omega)) (by rfl) pass0 (pa_cons (pv 1) (pa_cons (pe_op op_add (pe_callB call_len_seq (by rfl) n_len (by decide +kernel) (pa_cons (pv 2) pa_nil)) pe_int) pa_nil))))) (pss_one (ps_rz5 rfl tk (pmk5_B c_BadGaps (by rfl)))) pss_nil)
      (pss_cons (ps_set (i := 3) nd rfl (Or.inl rfl) (pe_callTy call_list_of (by rfl) n_list (by decide +kernel) (pa_cons (pe_ix ix_tup (pv 1) pe_int (fun _ _ => rfl)) pa_nil)))
      (pss_cons (ps_for (by first | exact PassesOwn.never | exact po | exact passes_of rfl) (by rfl) (RZ.pi_zipA (by rfl) n_zip (pa_cons (pv 2) (pa_cons (pe_slice sl_tupA (pv 1) (po_some pe_int) po_none) pa_nil))) (pg_tup rfl (pgs_cons (pg_name (i := 4) nd rfl (Or.inl rfl)) (pgs_cons (pg_name (i := 5) nd rfl (Or.inl rfl)) pgs_nil)))
      (pss_cons (ps_expr (pe_bm PySem.F.plainAttrs_list PySem.F.slot_list_append PySem.F.type_list_append mt_append (pv 3) (pa_cons (pv 4) pa_nil)))
      (pss_one (ps_expr (pe_bm PySem.F.plainAttrs_list PySem.F.slot_list_extend PySem.F.type_list_extend mt_extendT (pv 3) (pa_cons (pv 5) pa_nil))))))
      (pss_one (L2H.ps_try_onlyX rfl rfl ⟨by rfl, by decide, .inl g_BadRow⟩ (fun _ => PassesOwnAt.leaving) tk (fun W pn xe tkW tkP po => (pss_one (ps_ret (pe_calS C_wood_of (hr.mono (by omega)) (by rfl) (fun σ => L2N.passAt tkW σ) (pa_cons (pe_callTy call_tuple_of (by rfl) n_tuple (by decide +kernel) (pa_cons (pv 3) pa_nil)) pa_nil))))) (fun a oe cls d pn hz hf tk2 hot => (pss_one (L2H.ps_raiseHN hot tk2 (pmk5_B c_BadGaps (by rfl))))))))))))
abbrev N_l_deck : List Str := ["_law_script", "_law_great", "_law_mixed", "_law_cell", "_law_more"]
theorem sc_l_deck : FnScope N_l_deck ["_law_script"] (defScope s_l_deck) := ⟨rfl, rfl, rfl, by decide +kernel, rfl, by decide +kernel, by decide +kernel⟩
theorem ok_l_deck (Dd : Df K mg "_law_deck" s_l_deck) (n_len : mg "len" = none) (n_abs : mg "abs" = none) (n_int : mg "int" = none) : Cal P w K mg base CX0 "_law_deck" ["_law_script"] 1 (sp_l_deck K) := by
  refine Dd.cal (k := 0) (N := N_l_deck) sc_l_deck (fun _ _ _ _ _ _ us hl => match us, hl with | [_], _ => rfl) len_l_deck (fun f cdv A outer s H vs Q E hr h => ⟨t_l_deck K, PSs.nox ?_, by rw [start_n (n := 5) rfl]; exact pure_l_deck vs H Q E h⟩)
  have nd := sc_l_deck.nd
  exact (pss_cons (ps_par (i := 1) (j := 2) (by rfl) nd rfl rfl (by decide) rfl rfl (pa_cons pe_int (pa_cons (pe_op op_add pe_int (pe_op op_mul pe_int (pe_callB call_len_seq (by rfl) n_len (by decide +kernel) (pa_cons (pv 0) pa_nil)))) pa_nil)) (by rfl))
      (pss_cons (ps_for PassesOwn.never (by rfl) (pi_list (pe_slice sl_list (pv 0) po_none (po_some pe_int))) (pg_name (i := 3) nd rfl (Or.inl rfl))
      (pss_cons (ps_set (i := 4) nd rfl (Or.inl rfl) (pe_op op_add (pe_op op_add (pe_op op_mul pe_int (pe_callB call_abs (by rfl) n_abs (by decide +kernel) (pa_cons (pv 3) pa_nil))) (pe_callTy call_int1 (by rfl) n_int (by decide +kernel) (pa_cons (pe_cmpR op_lt (pv 3) pe_int (nomark _)) pa_nil))) pe_int))
      (pss_cons (ps_set (i := 2) nd rfl (Or.inl rfl) (pe_op op_mod (pe_callTy call_int1 (by rfl) n_int (by decide +kernel) (pa_cons (pe_op op_add (pe_op op_mul (pv 2) pe_int) (pv 4)) pa_nil)) pe_int))
      (pss_one (ps_if (pt_cmpR op_ge (pe_callB call_abs (by rfl) n_abs (by decide +kernel) (pa_cons (pv 3) pa_nil)) (pe_op op_pow pe_int pe_int) (nomark _)) (pss_one (ps_set (i := 1) nd rfl (Or.inl rfl) (pe_op op_add (pe_op op_mul (pv 1) pe_int) (pe_callB call_abs (by rfl) n_abs (by decide +kernel) (pa_cons (pv 3) pa_nil))))) pss_nil)))))
      (pss_one (ps_ret (pe_lst (pa_cons (pv 1) (pa_cons (pv 2) (pa_cons pe_int pa_nil))))))))
abbrev N_l_wood_of : List Str := ["_law_kids", "_law_name_here", "_law_kid"]
theorem sc_l_wood_of : FnScope N_l_wood_of ["_law_kids", "_law_name_here"] (defScope s_l_wood_of) := ⟨rfl, rfl, rfl, by decide +kernel, rfl, by decide +kernel, by decide +kernel⟩
theorem st_l_wood_of (Dd : Df K mg "_law_wood_of" s_l_wood_of) (n_tuple : mg "tuple" = none) {m : Nat} (REC : Cal P w K mg base CX0 "_law_wood_of" ["_law_kids", "_law_name_here"] (m + 1) (spW K m)) : Cal P w K mg base CX0 "_law_wood_of" ["_law_kids", "_law_name_here"] (m + 1 + 1) (spW K (m + 1)) := by
  refine Dd.cal (k := m + 1) (N := N_l_wood_of) sc_l_wood_of (fun _ _ _ _ _ _ us hl => match us, hl with | [_, _], _ => rfl) len_spW (fun f cdv A outer s H vs Q E hr h => ⟨t_l_wood_of K (spW K m), PSs.nox ?_, by rw [start_n (n := 3) rfl]; exact pure_l_wood_of vs H Q E h⟩)
  have nd := sc_l_wood_of.nd
  exact (pss_one (ps_ret (pe_callTy call_tuple_of (by rfl) n_tuple (by decide +kernel) (pa_cons (pe_lc (own := [("_law_kid", 2)]) (g := gName 2) (by rfl) nd (pi_list (pe_dget (hu_of hr) (pv 0) (pv 1) (fun _ _ => rfl))) (blkOk_by (own := [("_law_kid", 2)]) (N := N_l_wood_of) (sc := defScope s_l_wood_of) (by decide +kernel)) (fun _ _ _ _ _ => pg_name (i := 2) nd rfl (Or.inl rfl)) (fun _ _ _ _ _ => pts_nil) (fun _ _ _ _ _ => (pe_tup (pa_cons (pv 2) (pa_cons (pe_cal REC (hr.mono (by omega)) (by rfl) pass0 (pa_cons (pv 0) (pa_cons (pv 2) pa_nil))) pa_nil))))) pa_nil))))
theorem all_l_wood_of (Dd : Df K mg "_law_wood_of" s_l_wood_of) (n_tuple : mg "tuple" = none) : ∀ m : Nat, Cal P w K mg base CX0 "_law_wood_of" ["_law_kids", "_law_name_here"] (m + 1) (spW K m)
  | 0 => Dd.cal (k := 0) (N := N_l_wood_of) sc_l_wood_of (fun _ _ _ _ _ _ us hl => match us, hl with | [_, _], _ => rfl) len_spW (fun f cdv A outer s H vs Q E hr h => False.elim h)
  | m + 1 => st_l_wood_of Dd n_tuple (all_l_wood_of Dd n_tuple m)
theorem ok_l_wood_of (Dd : Df K mg "_law_wood_of" s_l_wood_of) (n_tuple : mg "tuple" = none) : Cal P w K mg base CX0 "_law_wood_of" ["_law_kids", "_law_name_here"] 122 (spW K 121) := all_l_wood_of Dd n_tuple 121
abbrev N_l_draw : List Str := ["_law_deck_here", "_law_many", "_law_digit", "_law_mixed"]
theorem sc_l_draw : FnScope N_l_draw ["_law_deck_here", "_law_many"] (defScope s_l_draw) := ⟨rfl, rfl, rfl, by decide +kernel, rfl, by decide +kernel, by decide +kernel⟩
theorem ok_l_draw (Dd : Df K mg "_law_draw" s_l_draw) (n_int : mg "int" = none) : Cal P w K mg base CX0 "_law_draw" ["_law_deck_here", "_law_many"] 1 sp_l_draw := by
  refine Dd.cal (k := 0) (N := N_l_draw) sc_l_draw (fun _ _ _ _ _ _ us hl => match us, hl with | [_, _], _ => rfl) len_l_draw (fun f cdv A outer s H vs Q E hr h => ⟨t_l_draw K, PSs.nox ?_, by rw [start_n (n := 4) rfl]; exact pure_l_draw vs H Q E h⟩)
  have nd := sc_l_draw.nd
  exact (pss_cons (ps_if (pt_cmpR op_gt (pe_ix ix_list (pv 0) pe_int (fun _ _ => rfl)) pe_int (nomark _)) (pss_cons (ps_set (i := 2) nd rfl (Or.inl rfl) (pe_op op_mod (pe_callTy call_int1 (by rfl) n_int (by decide +kernel) (pa_cons (pe_ix ix_list (pv 0) pe_int (fun _ _ => rfl)) pa_nil)) (pv 1)))
      (pss_cons (ps_asg (pe_op op_fdiv (pe_ix ix_list (pv 0) pe_int (fun _ _ => rfl)) (pv 1)) (pg_sub (pv 0) pe_int set_list))
      (pss_one (ps_ret (pv 2))))) pss_nil)
      (pss_cons (ps_asg (pe_op op_add (pe_ix ix_list (pv 0) pe_int (fun _ _ => rfl)) pe_int) (pg_sub (pv 0) pe_int set_list))
      (pss_cons (ps_set (i := 3) nd rfl (Or.inl rfl) (pe_op op_mod (pe_callTy call_int1 (by rfl) n_int (by decide +kernel) (pa_cons (pe_op op_add (pe_ix ix_list (pv 0) pe_int (fun _ _ => rfl)) (pe_op op_mul pe_int (pe_ix ix_list (pv 0) pe_int (fun _ _ => rfl)))) pa_nil)) pe_int))
      (pss_cons (ps_set (i := 3) nd rfl (Or.inl rfl) (pe_op op_mod (pe_callTy call_int1 (by rfl) n_int (by decide +kernel) (pa_cons (pe_op op_mul (pv 3) (pe_op op_add (pe_op op_mod (pv 3) pe_int) pe_int)) pa_nil)) pe_int))
      (pss_one (ps_ret (pe_op op_mod (pe_op op_fdiv (pe_op op_mod (pe_callTy call_int1 (by rfl) n_int (by decide +kernel) (pa_cons (pe_op op_mul (pv 3) (pv 3)) pa_nil)) pe_int) pe_int) (pv 1))))))))
abbrev N_l_wood : List Str := ["_law_deck_here", "_law_names_here", "_law_kids", "_law_name_here", "_law_over", "_law_at", "_law_some", "_law_take"]
theorem sc_l_wood : FnScope N_l_wood ["_law_deck_here", "_law_names_here"] (defScope s_l_wood) := ⟨rfl, rfl, rfl, by decide +kernel, rfl, by decide +kernel, by decide +kernel⟩
theorem ok_l_wood (Dd : Df K mg "_law_wood" s_l_wood) (n_list : mg "list" = none) (n_len : mg "len" = none) (C_l_draw : Cal P w K mg base CX0 "_law_draw" ["_law_deck_here", "_law_many"] 1 sp_l_draw) (C_l_wood_of : Cal P w K mg base CX0 "_law_wood_of" ["_law_kids", "_law_name_here"] 122 (spW K 121)) : Cal P w K mg base CX0 "_law_wood" ["_law_deck_here", "_law_names_here"] 123 (sp_l_wood K) := by
  refine Dd.cal (k := 122) (N := N_l_wood) sc_l_wood (fun _ _ _ _ _ _ us hl => match us, hl with | [_, _], _ => rfl) len_l_wood (fun f cdv A outer s H vs Q E hr h => ⟨t_l_wood K, PSs.nox ?_, by rw [start_n (n := 8) rfl]; exact pure_l_wood vs H Q E h⟩)
  have nd := sc_l_wood.nd
  exact (pss_cons (ps_set (i := 2) nd rfl (Or.inl rfl) (pe_disp (pps_cons pe_str (pe_lst pa_nil) pps_nil) (by rfl) (by rfl) (fun z => by cases z) (by decide)))
      (pss_cons (ps_for PassesOwn.never (by rfl) (pi_list (pv 1)) (pg_name (i := 3) nd rfl (Or.inl rfl))
      (pss_cons (ps_set (i := 4) nd rfl (Or.inl rfl) (pe_ix ix_list (pe_listKeys n_list (pv 2)) (pe_cal C_l_draw (hr.mono (by omega)) (by rfl) pass0 (pa_cons (pv 0) (pa_cons (pe_callB call_lenD (by rfl) n_len (by decide +kernel) (pa_cons (pv 2) pa_nil)) pa_nil))) (fun _ _ => rfl)))
      (pss_cons (ps_set (i := 5) nd rfl (Or.inl rfl) (pe_cal C_l_draw (hr.mono (by omega)) (by rfl) pass0 (pa_cons (pv 0) (pa_cons (pe_op op_add (pe_callB call_len_seq (by rfl) n_len (by decide +kernel) (pa_cons (pe_dget (hu_of hr) (pv 2) (pv 4) (fun _ _ => rfl)) pa_nil)) pe_int) pa_nil))))
      (pss_cons (ps_set (i := 6) nd rfl (Or.inl rfl) (pe_dget (hu_of hr) (pv 2) (pv 4) (fun _ _ => rfl)))
      (pss_cons (ps_set (i := 7) nd rfl (Or.inl rfl) (pe_op op_mul (pe_op op_fdiv (pe_cal C_l_draw (hr.mono (by omega)) (by rfl) pass0 (pa_cons (pv 0) (pa_cons pe_int pa_nil))) pe_int) (pe_cal C_l_draw (hr.mono (by omega)) (by rfl) pass0 (pa_cons (pv 0) (pa_cons (pe_op op_add (pe_op op_sub (pe_callB call_len_seq (by rfl) n_len (by decide +kernel) (pa_cons (pv 6) pa_nil)) (pv 5)) pe_int) pa_nil)))))
      (pss_cons (ps_dput (hu_of hr) (pv 2) (pv 3) (pe_slice sl_list (pv 6) (po_some (pv 5)) (po_some (pe_op op_add (pv 5) (pv 7)))) rfl)
      (pss_one (ps_dput (hu_of hr) (pv 2) (pv 4) (pe_op op_cat (pe_op op_cat (pe_slice sl_list (pv 6) po_none (po_some (pv 5))) (pe_lst (pa_cons (pv 3) pa_nil))) (pe_slice sl_list (pv 6) (po_some (pe_op op_add (pv 5) (pv 7))) po_none)) rfl))))))))
      (pss_one (ps_ret (pe_cal C_l_wood_of (hr.mono (by omega)) (by rfl) pass0 (pa_cons (pv 2) (pa_cons pe_str pa_nil)))))))
abbrev N_l_tall_wood : List Str := ["_law_deck_here", "_law_names_here", "_law_tall", "_law_kids", "_law_deep_here", "_law_over", "_law_k", "_law_name_here", "_law_some", "_law_row_here", "_law_one"]
theorem sc_l_tall_wood : FnScope N_l_tall_wood ["_law_deck_here", "_law_names_here", "_law_tall"] (defScope s_l_tall_wood) := ⟨rfl, rfl, rfl, by decide +kernel, rfl, by decide +kernel, by decide +kernel⟩
theorem ok_l_tall_wood (Dd : Df K mg "_law_tall_wood" s_l_tall_wood) (n_range : mg "range" = none) (n_len : mg "len" = none) (C_l_draw : Cal P w K mg base CX0 "_law_draw" ["_law_deck_here", "_law_many"] 1 sp_l_draw) (C_l_wood_of : Cal P w K mg base CX0 "_law_wood_of" ["_law_kids", "_law_name_here"] 122 (spW K 121)) : Cal P w K mg base CX0 "_law_tall_wood" ["_law_deck_here", "_law_names_here", "_law_tall"] 123 (sp_l_tall_wood K) := by
  refine Dd.cal (k := 122) (N := N_l_tall_wood) sc_l_tall_wood (fun _ _ _ _ _ _ us hl => match us, hl with | [_, _, _], _ => rfl) len_l_tall_wood (fun f cdv A outer s H vs Q E hr h => ⟨t_l_tall_wood K, PSs.nox ?_, by rw [start_n (n := 11) rfl]; exact pure_l_tall_wood vs H Q E h⟩)
  have nd := sc_l_tall_wood.nd
  exact (pss_cons (ps_asg (pe_tup (pa_cons (pe_disp (pps_cons pe_str (pe_lst pa_nil) pps_nil) (by rfl) (by rfl) (fun z => by cases z) (by decide)) (pa_cons (pe_disp (pps_cons pe_str pe_int pps_nil) (by rfl) (by rfl) (fun z => by cases z) (by decide)) pa_nil))) (pg_tup rfl (pgs_cons (pg_name (i := 3) nd rfl (Or.inl rfl)) (pgs_cons (pg_name (i := 4) nd rfl (Or.inr rfl)) pgs_nil))))
      (pss_cons (ps_set (i := 5) nd rfl (Or.inl rfl) pe_str)
      (pss_cons (ps_for PassesOwn.never (by rfl) (pi_range1 (by rfl) n_range (pa_cons (pe_callB call_len_seq (by rfl) n_len (by decide +kernel) (pa_cons (pv 1) pa_nil)) pa_nil)) (pg_name (i := 6) nd rfl (Or.inl rfl))
      (pss_cons (ps_set (i := 7) nd rfl (Or.inl rfl) (pe_ix ix_list (pv 1) (pv 6) (fun _ _ => rfl)))
      (C8.pss_cut (ps_if (pt_cmpR op_ge (pv 6) (pv 2) (nomark _)) (pss_cons (ps_lock (ps_setLc (i := 8) (own := [("_law_one", 10)]) (g := gName 10) (by rfl) nd rfl rfl (sw_true rfl rfl rfl (by decide +kernel)) (pi_keysM (pv 3)) (blkOk_by (own := [("_law_one", 10)]) (N := N_l_tall_wood) (sc := defScope s_l_tall_wood) (by decide +kernel)) (fun _ _ _ _ _ => pg_name (i := 10) nd rfl (Or.inl rfl)) (fun _ _ _ _ _ => (pts_one (pt_cmpR op_lt (pe_dget (hu_of hr) (pv 4) (pv 10) (fun _ _ => rfl)) (pv 2) (nomark _)))) (fun _ _ _ _ _ => (pv 10))))
      (pss_one (ps_set (i := 5) nd rfl (Or.inl rfl) (pe_ix ix_list (pv 8) (pe_cal C_l_draw (hr.mono (by omega)) (by rfl) pass0 (pa_cons (pv 0) (pa_cons (pe_callB call_len_seq (by rfl) n_len (by decide +kernel) (pa_cons (pv 8) pa_nil)) pa_nil))) (fun _ _ => rfl))))) pss_nil)
      (pss_cons (ps_set (i := 9) nd rfl (Or.inl rfl) (pe_dget (hu_of hr) (pv 3) (pv 5) (fun _ _ => rfl)))
      (pss_cons (ps_expr (pe_bm PySem.F.plainAttrs_list PySem.F.slot_list_insert PySem.F.type_list_insert mt_insert (pv 9) (pa_cons (pe_cal C_l_draw (hr.mono (by omega)) (by rfl) pass0 (pa_cons (pv 0) (pa_cons (pe_op op_add (pe_callB call_len_seq (by rfl) n_len (by decide +kernel) (pa_cons (pv 9) pa_nil)) pe_int) pa_nil))) (pa_cons (pv 7) pa_nil))))
      (pss_cons (ps_dput (hu_of hr) (pv 3) (pv 7) (pe_lst pa_nil) rfl)
      (pss_cons (ps_dput (hu_of hr) (pv 4) (pv 7) (pe_op op_add (pe_dget (hu_of hr) (pv 4) (pv 5) (fun _ _ => rfl)) pe_int) rfl)
      (pss_one (ps_set (i := 5) nd rfl (Or.inl rfl) (pv 7))))))))))
      (pss_one (ps_ret (pe_cal C_l_wood_of (hr.mono (by omega)) (by rfl) pass0 (pa_cons (pv 3) (pa_cons pe_str pa_nil))))))))
abbrev N_l_name : List Str := ["_law_deck_here", "_law_letters", "_law_k"]
theorem sc_l_name : FnScope N_l_name ["_law_deck_here"] (defScope s_l_name) := ⟨rfl, rfl, rfl, by decide +kernel, rfl, by decide +kernel, by decide +kernel⟩
theorem ok_l_name (Dd : Df K mg "_law_name" s_l_name) (n_range : mg "range" = none) (C_l_draw : Cal P w K mg base CX0 "_law_draw" ["_law_deck_here", "_law_many"] 1 sp_l_draw) : Cal P w K mg base CX0 "_law_name" ["_law_deck_here"] 2 sp_l_name := by
  refine Dd.cal (k := 1) (N := N_l_name) sc_l_name (fun _ _ _ _ _ _ us hl => match us, hl with | [_], _ => rfl) len_l_name (fun f cdv A outer s H vs Q E hr h => ⟨t_l_name K, PSs.nox ?_, by rw [start_n (n := 3) rfl]; exact pure_l_name vs H Q E h⟩)
  have nd := sc_l_name.nd
  exact (pss_cons (ps_set (i := 1) nd rfl (Or.inr rfl) pe_str)
      (pss_one (ps_ret (pe_join pe_str (pe_lc (own := [("_law_k", 2)]) (g := gName 2) (by rfl) nd (pi_range1 (by rfl) n_range (pa_cons (pe_op op_add pe_int (pe_cal C_l_draw (hr.mono (by omega)) (by rfl) pass0 (pa_cons (pv 0) (pa_cons pe_int pa_nil)))) pa_nil)) (blkOk_by (own := [("_law_k", 2)]) (N := N_l_name) (sc := defScope s_l_name) (by decide +kernel)) (fun _ _ _ _ _ => pg_name (i := 2) nd rfl (Or.inl rfl)) (fun _ _ _ _ _ => pts_nil) (fun _ _ _ _ _ => (pe_ix ix_str (pv 1) (pe_cal C_l_draw (hr.mono (by omega)) (by rfl) pass0 (pa_cons (pv 0) (pa_cons pe_int pa_nil))) (fun _ _ => rfl))))))))
abbrev N_l_names : List Str := ["_law_deck_here", "_law_many", "_law_letters", "_law_spare", "_law_way", "_law_base", "_law_place", "_law_at", "_law_names_here", "_law_k", "_law_kind", "_law_name_here"]
theorem sc_l_names : FnScope N_l_names ["_law_deck_here", "_law_many"] (defScope s_l_names) := ⟨rfl, rfl, rfl, by decide +kernel, rfl, by decide +kernel, by decide +kernel⟩
theorem ok_l_names (Dd : Df K mg "_law_names" s_l_names) (n_range : mg "range" = none) (C_l_draw : Cal P w K mg base CX0 "_law_draw" ["_law_deck_here", "_law_many"] 1 sp_l_draw) (C_l_name : Cal P w K mg base CX0 "_law_name" ["_law_deck_here"] 2 sp_l_name) : Cal P w K mg base CX0 "_law_names" ["_law_deck_here", "_law_many"] 3 sp_l_names := by
  refine Dd.cal (k := 2) (N := N_l_names) sc_l_names (fun _ _ _ _ _ _ us hl => match us, hl with | [_, _], _ => rfl) len_l_names (fun f cdv A outer s H vs Q E hr h => ⟨t_l_names K, PSs.nox ?_, by rw [start_n (n := 12) rfl]; exact pure_l_names vs H Q E h⟩)
  have nd := sc_l_names.nd
  exact (pss_cons (ps_set (i := 2) nd rfl (Or.inr rfl) pe_str)
      (pss_cons (ps_setLc (i := 3) (own := [("_law_k", 9)]) (g := gName 9) (by rfl) nd rfl rfl (sw_true rfl rfl rfl (by decide +kernel)) (pi_range1 (by rfl) n_range (pa_cons pe_int pa_nil)) (blkOk_by (own := [("_law_k", 9)]) (N := N_l_names) (sc := defScope s_l_names) (by decide +kernel)) (fun _ _ _ _ _ => pg_name (i := 9) nd rfl (Or.inl rfl)) (fun _ _ _ _ _ => pts_nil) (fun _ _ _ _ _ => (pe_op op_add_str (pe_ix ix_str (pv 2) (pe_op op_fdiv (pv 9) pe_int) (fun _ _ => rfl)) (pe_ix ix_str (pv 2) (pe_op op_mod (pv 9) pe_int) (fun _ _ => rfl)))))
      (pss_cons (ps_par (i := 4) (j := 5) (by rfl) nd rfl rfl (by decide) rfl rfl (pa_cons (pe_cal C_l_draw (hr.mono (by omega)) (by rfl) pass0 (pa_cons (pv 0) (pa_cons pe_int pa_nil))) (pa_cons (pe_slice sl_str (pe_op op_rep_str (pe_cal C_l_name (hr.mono (by omega)) (by rfl) pass0 (pa_cons (pv 0) pa_nil)) pe_int) po_none (po_some pe_int)) pa_nil)) (by rfl))
      (pss_cons (ps_par3 (i := 6) (j := 7) (l := 8) (by rfl) nd rfl rfl rfl (by decide) (by decide) (by decide) rfl rfl rfl (pa_cons (pe_cal C_l_draw (hr.mono (by omega)) (by rfl) pass0 (pa_cons (pv 0) (pa_cons pe_int pa_nil))) (pa_cons pe_int (pa_cons (pe_lst pa_nil) pa_nil))) (by rfl))
      (pss_cons (ps_for PassesOwn.never (by rfl) (pi_range1 (by rfl) n_range (pa_cons (pv 1) pa_nil)) (pg_name (i := 9) nd rfl (Or.inl rfl))
      (C8.pss_cut (ps_set (i := 10) nd rfl (Or.inl rfl) (pe_ifExp (pt_cmpR op_eq (pv 4) pe_int (nomark _)) (pe_cal C_l_draw (hr.mono (by omega)) (by rfl) pass0 (pa_cons (pv 0) (pa_cons pe_int pa_nil))) (pv 4)))
      (C8.pss_cut (ps_if (pt_cmpR op_eq (pv 10) pe_int (nomark _)) (pss_one (ps_set (i := 11) nd rfl (Or.inl rfl) (pe_cal C_l_name (hr.mono (by omega)) (by rfl) pass0 (pa_cons (pv 0) pa_nil)))) (pss_one (ps_if (pt_cmpR op_eq (pv 10) pe_int (nomark _)) (pss_one (ps_set (i := 11) nd rfl (Or.inl rfl) (pe_op op_add_str (pe_op op_add_str (pe_slice sl_str (pv 5) po_none (po_some (pv 6))) (pe_ix ix_str (pv 2) (pe_cal C_l_draw (hr.mono (by omega)) (by rfl) pass0 (pa_cons (pv 0) (pa_cons pe_int pa_nil))) (fun _ _ => rfl))) (pe_slice sl_str (pv 5) (po_some (pe_op op_add (pv 6) pe_int)) po_none)))) (pss_one (ps_set (i := 11) nd rfl (Or.inl rfl) (pe_slice sl_str (pv 5) po_none (po_some (pe_op op_add pe_int (pe_cal C_l_draw (hr.mono (by omega)) (by rfl) pass0 (pa_cons (pv 0) (pa_cons pe_int pa_nil)))))))))))
      (pss_cons (ps_while PassesOwn.never (pt_cmpR op_in_seq (pv 11) (pv 8) (by rfl))
      (pss_cons (ps_set (i := 11) nd rfl (Or.inl rfl) (pe_ix ix_list (pv 3) (pv 7) (fun _ _ => rfl)))
      (pss_one (ps_set (i := 7) nd rfl (Or.inl rfl) (pe_op op_add (pv 7) pe_int)))))
      (pss_one (ps_expr (pe_bm PySem.F.plainAttrs_list PySem.F.slot_list_append PySem.F.type_list_append mt_append (pv 8) (pa_cons (pv 11) pa_nil))))))))
      (pss_one (ps_ret (pv 8))))))))
abbrev N_l_wood_and_names : List Str := ["_law_deck_here", "_law_more", "_law_tall", "_law_many", "_law_names_here"]
theorem sc_l_wood_and_names : FnScope N_l_wood_and_names ["_law_deck_here", "_law_more"] (defScope s_l_wood_and_names) := ⟨rfl, rfl, rfl, by decide +kernel, rfl, by decide +kernel, by decide +kernel⟩
theorem ok_l_wood_and_names (Dd : Df K mg "_law_wood_and_names" s_l_wood_and_names) (C_l_draw : Cal P w K mg base CX0 "_law_draw" ["_law_deck_here", "_law_many"] 1 sp_l_draw) (C_l_names : Cal P w K mg base CX0 "_law_names" ["_law_deck_here", "_law_many"] 3 sp_l_names) (C_l_tall_wood : Cal P w K mg base CX0 "_law_tall_wood" ["_law_deck_here", "_law_names_here", "_law_tall"] 123 (sp_l_tall_wood K)) (C_l_wood : Cal P w K mg base CX0 "_law_wood" ["_law_deck_here", "_law_names_here"] 123 (sp_l_wood K)) : Cal P w K mg base CX0 "_law_wood_and_names" ["_law_deck_here", "_law_more"] 124 (sp_l_wood_and_names K) := by
  refine Dd.cal (k := 123) (N := N_l_wood_and_names) sc_l_wood_and_names (fun _ _ _ _ _ _ us hl => match us, hl with | [_, _], _ => rfl) len_l_wood_and_names (fun f cdv A outer s H vs Q E hr h => ⟨t_l_wood_and_names K, PSs.nox ?_, by rw [start_n (n := 5) rfl]; exact pure_l_wood_and_names vs H Q E h⟩)
  have nd := sc_l_wood_and_names.nd
  exact (pss_cons (ps_if (pt_cmpR op_eq (pe_cal C_l_draw (hr.mono (by omega)) (by rfl) pass0 (pa_cons (pv 0) (pa_cons pe_int pa_nil))) pe_int (nomark _)) (pss_cons (ps_set (i := 2) nd rfl (Or.inl rfl) (pe_op op_add pe_int (pe_cal C_l_draw (hr.mono (by omega)) (by rfl) pass0 (pa_cons (pv 0) (pa_cons pe_int pa_nil)))))
      (pss_cons (ps_set (i := 3) nd rfl (Or.inl rfl) (pe_op op_add (pv 2) (pe_cal C_l_draw (hr.mono (by omega)) (by rfl) pass0 (pa_cons (pv 0) (pa_cons (pe_op op_sub pe_int (pv 2)) pa_nil)))))
      (pss_cons (ps_set (i := 4) nd rfl (Or.inl rfl) (pe_cal C_l_names (hr.mono (by omega)) (by rfl) pass0 (pa_cons (pv 0) (pa_cons (pe_op op_add (pv 3) (pv 1)) pa_nil))))
      (pss_one (ps_ret (pe_lst (pa_cons (pe_cal C_l_tall_wood (hr.mono (by omega)) (by rfl) pass0 (pa_cons (pv 0) (pa_cons (pe_slice sl_list (pv 4) po_none (po_some (pv 3))) (pa_cons (pv 2) pa_nil)))) (pa_cons (pe_slice sl_list (pv 4) (po_some (pv 3)) po_none) pa_nil)))))))) pss_nil)
      (pss_cons (ps_set (i := 3) nd rfl (Or.inl rfl) (pe_cal C_l_draw (hr.mono (by omega)) (by rfl) pass0 (pa_cons (pv 0) (pa_cons pe_int pa_nil))))
      (pss_cons (ps_set (i := 4) nd rfl (Or.inl rfl) (pe_cal C_l_names (hr.mono (by omega)) (by rfl) pass0 (pa_cons (pv 0) (pa_cons (pe_op op_add (pv 3) (pv 1)) pa_nil))))
      (pss_one (ps_ret (pe_lst (pa_cons (pe_cal C_l_wood (hr.mono (by omega)) (by rfl) pass0 (pa_cons (pv 0) (pa_cons (pe_slice sl_list (pv 4) po_none (po_some (pv 3))) pa_nil))) (pa_cons (pe_slice sl_list (pv 4) (po_some (pv 3)) po_none) pa_nil))))))))
abbrev N_l_some_wood : List Str := ["_law_deck_here"]
theorem sc_l_some_wood : FnScope N_l_some_wood ["_law_deck_here"] (defScope s_l_some_wood) := ⟨rfl, rfl, rfl, by decide +kernel, rfl, by decide +kernel, by decide +kernel⟩
theorem ok_l_some_wood (Dd : Df K mg "_law_some_wood" s_l_some_wood) (C_l_wood_and_names : Cal P w K mg base CX0 "_law_wood_and_names" ["_law_deck_here", "_law_more"] 124 (sp_l_wood_and_names K)) : Cal P w K mg base CX0 "_law_some_wood" ["_law_deck_here"] 125 (sp_l_some_wood K) := by
  refine Dd.cal (k := 124) (N := N_l_some_wood) sc_l_some_wood (fun _ _ _ _ _ _ us hl => match us, hl with | [_], _ => rfl) len_l_some_wood (fun f cdv A outer s H vs Q E hr h => ⟨t_l_some_wood K, PSs.nox ?_, by rw [start_n (n := 1) rfl]; exact pure_l_some_wood vs H Q E h⟩)
  have nd := sc_l_some_wood.nd
  exact (pss_one (ps_ret (pe_ix ix_list (pe_cal C_l_wood_and_names (hr.mono (by omega)) (by rfl) pass0 (pa_cons (pv 0) (pa_cons pe_int pa_nil))) pe_int (fun _ _ => rfl))))
abbrev N_l_row : List Str := ["_law_wood_here", "_law_found", "_law_name_here", "_law_inside"]
theorem sc_l_row : FnScope N_l_row ["_law_wood_here"] (defScope s_l_row) := ⟨rfl, rfl, rfl, by decide +kernel, rfl, by decide +kernel, by decide +kernel⟩
theorem st_l_row (Dd : Df K mg "_law_row" s_l_row)  {m : Nat} (REC : Cal P w K mg base CX0 "_law_row" ["_law_wood_here"] (m + 1) (spR K m)) : Cal P w K mg base CX0 "_law_row" ["_law_wood_here"] (m + 1 + 1) (spR K (m + 1)) := by
  refine Dd.cal (k := m + 1) (N := N_l_row) sc_l_row (fun _ _ _ _ _ _ us hl => match us, hl with | [_], _ => rfl) len_spR (fun f cdv A outer s H vs Q E hr h => ⟨t_l_row K (spR K m), PSs.nox ?_, by rw [start_n (n := 4) rfl]; exact pure_l_row vs H Q E h⟩)
  have nd := sc_l_row.nd
  exact (pss_cons (ps_set (i := 1) nd rfl (Or.inl rfl) (pe_tup pa_nil))
      (pss_cons (ps_for PassesOwn.never (by rfl) (pi_tup (pv 0)) (pg_tup rfl (pgs_cons (pg_name (i := 2) nd rfl (Or.inl rfl)) (pgs_cons (pg_name (i := 3) nd rfl (Or.inl rfl)) pgs_nil)))
      (pss_one (ps_set (i := 1) nd rfl (Or.inl rfl) (pe_op op_catA (pe_op op_catA (pe_op op_catA (pv 1) (pe_tup (pa_cons (pe_op op_add_str pe_str (pv 2)) pa_nil))) (pe_cal REC (hr.mono (by omega)) (by rfl) pass0 (pa_cons (pv 3) pa_nil))) (pe_tup (pa_cons (pe_op op_add_str pe_str (pv 2)) pa_nil))))))
      (pss_one (ps_ret (pv 1)))))
theorem all_l_row (Dd : Df K mg "_law_row" s_l_row)  : ∀ m : Nat, Cal P w K mg base CX0 "_law_row" ["_law_wood_here"] (m + 1) (spR K m)
  | 0 => Dd.cal (k := 0) (N := N_l_row) sc_l_row (fun _ _ _ _ _ _ us hl => match us, hl with | [_], _ => rfl) len_spR (fun f cdv A outer s H vs Q E hr h => False.elim h)
  | m + 1 => st_l_row Dd  (all_l_row Dd  m)
theorem ok_l_row (Dd : Df K mg "_law_row" s_l_row)  : Cal P w K mg base CX0 "_law_row" ["_law_wood_here"] 122 (spR K 121) := all_l_row Dd  121
abbrev N_l_from_row : List Str := ["_law_row_here", "_law_still", "_law_end", "_law_tree", "_law_name_here", "_law_trees"]
theorem sc_l_from_row : FnScope N_l_from_row ["_law_row_here"] (defScope s_l_from_row) := ⟨rfl, rfl, rfl, by decide +kernel, rfl, by decide +kernel, by decide +kernel⟩
theorem ok_l_from_row (Dd : Df K mg "_law_from_row" s_l_from_row)  : Cal P w K mg base CX0 "_law_from_row" ["_law_row_here"] 1 (sp_l_from_row K) := by
  refine Dd.cal (k := 0) (N := N_l_from_row) sc_l_from_row (fun _ _ _ _ _ _ us hl => match us, hl with | [_], _ => rfl) len_l_from_row (fun f cdv A outer s H vs Q E hr h => ⟨t_l_from_row K, PSs.nox ?_, by rw [start_n (n := 6) rfl]; exact pure_l_from_row vs H Q E h⟩)
  have nd := sc_l_from_row.nd
  exact (pss_cons (ps_set (i := 1) nd rfl (Or.inl rfl) (pe_lst (pa_cons (pe_tup (pa_cons pe_str (pa_cons (pe_tup pa_nil) pa_nil))) pa_nil)))
      (pss_cons (ps_for PassesOwn.never (by rfl) (pi_tup (pv 0)) (pg_name (i := 2) nd rfl (Or.inl rfl))
      (pss_one (ps_if (pt_cmpR op_eq (pe_ix ix_str (pv 2) pe_int (fun _ _ => rfl)) pe_str (nomark _)) (pss_one (ps_expr (pe_bm PySem.F.plainAttrs_list PySem.F.slot_list_append PySem.F.type_list_append mt_append (pv 1) (pa_cons (pe_tup (pa_cons (pe_slice sl_str (pv 2) (po_some pe_int) po_none) (pa_cons (pe_tup pa_nil) pa_nil))) pa_nil)))) (pss_cons (ps_set (i := 3) nd rfl (Or.inl rfl) (pe_bm0 PySem.F.plainAttrs_list PySem.F.slot_list_pop PySem.F.type_list_pop mt_pop (pv 1)))
      (pss_cons (ps_asg (pe_bm0 PySem.F.plainAttrs_list PySem.F.slot_list_pop PySem.F.type_list_pop mt_pop (pv 1)) (pg_tup rfl (pgs_cons (pg_name (i := 4) nd rfl (Or.inl rfl)) (pgs_cons (pg_name (i := 5) nd rfl (Or.inl rfl)) pgs_nil))))
      (pss_one (ps_expr (pe_bm PySem.F.plainAttrs_list PySem.F.slot_list_append PySem.F.type_list_append mt_append (pv 1) (pa_cons (pe_tup (pa_cons (pv 4) (pa_cons (pe_op op_catA (pv 5) (pe_tup (pa_cons (pv 3) pa_nil))) pa_nil))) pa_nil)))))))))
      (pss_one (ps_ret (pe_ix ix_tup (pe_ix ix_list (pv 1) pe_int (fun _ _ => rfl)) pe_int (fun _ _ => rfl))))))
abbrev N_l_chosen : List Str := ["_law_deck_here", "_law_names_here", "_law_way", "_law_found", "_law_name_here"]
theorem sc_l_chosen : FnScope N_l_chosen ["_law_deck_here", "_law_names_here"] (defScope s_l_chosen) := ⟨rfl, rfl, rfl, by decide +kernel, rfl, by decide +kernel, by decide +kernel⟩
theorem ok_l_chosen (Dd : Df K mg "_law_chosen" s_l_chosen) (n_len : mg "len" = none) (n_tuple : mg "tuple" = none) (C_l_draw : Cal P w K mg base CX0 "_law_draw" ["_law_deck_here", "_law_many"] 1 sp_l_draw) : Cal P w K mg base CX0 "_law_chosen" ["_law_deck_here", "_law_names_here"] 2 (sp_l_chosen K) := by
  refine Dd.cal (k := 1) (N := N_l_chosen) sc_l_chosen (fun _ _ _ _ _ _ us hl => match us, hl with | [_, _], _ => rfl) len_l_chosen (fun f cdv A outer s H vs Q E hr h => ⟨t_l_chosen K, PSs.nox ?_, by rw [start_n (n := 5) rfl]; exact pure_l_chosen vs H Q E h⟩)
  have nd := sc_l_chosen.nd
  exact (pss_cons (ps_par (i := 2) (j := 3) (by rfl) nd rfl rfl (by decide) rfl rfl (pa_cons (pe_cal C_l_draw (hr.mono (by omega)) (by rfl) pass0 (pa_cons (pv 0) (pa_cons pe_int pa_nil))) (pa_cons (pe_lst pa_nil) pa_nil)) (by rfl))
      (pss_cons (ps_for PassesOwn.never (by rfl) (pi_list (pv 1)) (pg_name (i := 4) nd rfl (Or.inl rfl))
      (pss_one (ps_if (PW.pt (pw_or (pt_cmpR op_eq (pv 2) pe_int (nomark _)) (pw_or1 (PW.pt (pw_and (pt_cmpR op_lt (pv 2) pe_int (nomark _)) (pw_and1 (pt_cmpR op_eq (pe_cal C_l_draw (hr.mono (by omega)) (by rfl) pass0 (pa_cons (pv 0) (pa_cons (pe_op op_add pe_int (pv 2)) pa_nil))) pe_int (nomark _)))))))) (pss_one (ps_expr (pe_bm PySem.F.plainAttrs_list PySem.F.slot_list_insert PySem.F.type_list_insert mt_insert (pv 3) (pa_cons (pe_cal C_l_draw (hr.mono (by omega)) (by rfl) pass0 (pa_cons (pv 0) (pa_cons (pe_op op_add (pe_callB call_len_seq (by rfl) n_len (by decide +kernel) (pa_cons (pv 3) pa_nil)) pe_int) pa_nil))) (pa_cons (pv 4) pa_nil))))) pss_nil)))
      (pss_one (ps_ret (pe_callTy call_tuple_of (by rfl) n_tuple (by decide +kernel) (pa_cons (pv 3) pa_nil))))))
abbrev N_l_deep : List Str := ["_law_deck_here", "_law_names_here", "_law_many", "_law_chain", "_law_at", "_law_others", "_law_inside", "_law_gaps_here", "_law_deepest", "_law_due", "_law_found", "_law_name_here"]
theorem sc_l_deep : FnScope N_l_deep ["_law_deck_here"] (defScope s_l_deep) := ⟨rfl, rfl, rfl, by decide +kernel, rfl, by decide +kernel, by decide +kernel⟩
theorem ok_l_deep (Dd : Df K mg "_law_deep" s_l_deep) {A_TwigError A_BadGaps A_BadNames A_BadRow A_NoName : Addr} (g_TwigError : mg "TwigError" = some (.ref A_TwigError)) (g_BadGaps : mg "BadGaps" = some (.ref A_BadGaps)) (g_BadNames : mg "BadNames" = some (.ref A_BadNames)) (g_BadRow : mg "BadRow" = some (.ref A_BadRow)) (g_NoName : mg "NoName" = some (.ref A_NoName)) (c_TwigError : ClsB K mg "TwigError" A_TwigError) (c_BadGaps : ClsB K mg "BadGaps" A_BadGaps) (c_BadNames : ClsB K mg "BadNames" A_BadNames) (c_BadRow : ClsH P w K mg base "BadRow" ["place"] false (sp_initG1 K false A_BadRow "place") A_BadRow 1) (c_NoName : ClsH P w K mg base "NoName" ["name"] true (sp_initG1 K true A_NoName "name") A_NoName 1) (cf : Cf09 K A_TwigError A_BadGaps A_BadNames A_BadRow A_NoName) (n_tuple : mg "tuple" = none) (n_len : mg "len" = none) (n_min : mg "min" = none) (C_l_names : Cal P w K mg base CX0 "_law_names" ["_law_deck_here", "_law_many"] 3 sp_l_names) (C_l_draw : Cal P w K mg base CX0 "_law_draw" ["_law_deck_here", "_law_many"] 1 sp_l_draw) (C_l_row : Cal P w K mg base CX0 "_law_row" ["_law_wood_here"] 122 (spR K 121)) (C_l_tall_wood : Cal P w K mg base CX0 "_law_tall_wood" ["_law_deck_here", "_law_names_here", "_law_tall"] 123 (sp_l_tall_wood K)) (C_l_from_row : Cal P w K mg base CX0 "_law_from_row" ["_law_row_here"] 1 (sp_l_from_row K)) (C_filled : Cal P w K mg base (L2.CX P w) "filled" ["wood", "value"] 5 (spOf K (psp_filled A_BadGaps))) : Cal P w K mg base CX0 "_law_deep" ["_law_deck_here"] 124 (spOf K psp_l_deep) := by
  refine Dd.cal (k := 123) (N := N_l_deep) sc_l_deep (fun _ _ _ _ _ _ us hl => match us, hl with | [_], _ => rfl) len_l_deep (fun f cdv A outer s H vs Q E hr h => ⟨(X_l_deep K A_BadGaps).rd (fun _ => E0), PSs.nox ?_, by rw [start_n (n := 12) rfl]; exact pure_l_deep cf.gg vs H Q E h⟩)
  have nd := sc_l_deep.nd
  exact (show PSs _ _ (tSeq (tAsg (tCall sp_l_names [] E0 (tCons (tVar 0) (tCons (tOp (rI0 fun i j => .int (i + j)) (tC (.int 94)) (tCall sp_l_draw [] E0 (tCons (tVar 0) (tCons (tC (.int 13)) tNil)))) tNil))) (gName 1))
  (tSeq (tAsg (tOp (rI0 fun i j => .int (i + j)) (tC (.int 1)) (tCall sp_l_draw [] E0 (tCons (tVar 0) (tCons (tC (.int 40)) tNil)))) (gName 2))
  (tSeq (tAsg (tCall (spR K 121) [] E0 (tCons (tCall (sp_l_tall_wood K) [] E0 (tCons (tVar 0) (tCons (L2.tSl (rSlL K) (tVar 1) tNoPart (tPart (tVar 2))) (tCons (tVar 2) tNil)))) tNil)) (gName 3))
  (tSeq (tAsg (tCall sp_l_draw [] E0 (tCons (tVar 0) (tCons (tOp (rI0 fun i j => .int (i + j)) (tOp (rI CMul fun i j => .int (i * j)) (tC (.int 2)) (tVar 2)) (tC (.int 1))) tNil))) (gName 4))
  (tSeq (tAsg (L2.tSl (rSlL K) (tVar 1) (tPart (tVar 2)) tNoPart) (gName 5))
  (tSeq (tAsg (tOp rCat (tLc (iList K (tVar 5)) (gName 11) tYes (tOp rAddStr (tC (.str "+")) (tVar 11)) [11]) (tLc (iList K (tRevL K (tVar 5))) (gName 11) tYes (tOp rAddStr (tC (.str "-")) (tVar 11)) [11])) (gName 6))
  (tSeq (tAsg (tOp rCat (tOp rCat (tOp rRep (tLst (tCons (tTup tNil) tNil)) (tVar 4)) (tLst (tCons (tCB (rTupleOf K) (tCons (tVar 6) tNil)) tNil))) (tOp rRep (tLst (tCons (tTup tNil) tNil)) (tOp (rI0 fun i j => .int (i - j)) (tOp (rI CMul fun i j => .int (i * j)) (tC (.int 2)) (tVar 2)) (tVar 4)))) (gName 7))
  (tSeq (tAsg (tOp (rI0 fun i j => .int (i + j)) (tOp (rI0 fun i j => .int (i - j)) (tCB (rLenSeq K) (tCons (tVar 1) tNil)) (tVar 2)) (tCB rMin2 (tCons (tVar 4) (tCons (tOp (rI0 fun i j => .int (i - j)) (tOp (rI CMul fun i j => .int (i * j)) (tC (.int 2)) (tVar 2)) (tVar 4)) tNil)))) (gName 8))
  (tSeq (tAsg (tCall (sp_l_from_row K) [] E0 (tCons (tOp (rCatA K) (tOp (rCatA K) (L2.tSl (rSlA K) (tVar 3) tNoPart (tPart (tVar 4))) (tCB (rTupleOf K) (tCons (tVar 6) tNil))) (L2.tSl (rSlA K) (tVar 3) (tPart (tVar 4)) tNoPart)) tNil)) (gName 9))
  (tSeq (fun D σ H => (fun W => (tAsg (tCallS (spOf K (psp_filled A_BadGaps)) (fun σ => WE W σ) (tCons (tCall (sp_l_from_row K) [] E0 (tCons (tVar 3) tNil)) (tCons (tCB (rTupleOf K) (tCons (tVar 7) tNil)) tNil))) (gName 10))) (wOnly K (.ref A_BadGaps) (fun a cls d => (tRet (tOp (rI0 fun i j => .bl (decide (j < i))) (tVar 8) (tC (.int 100))))) (fun cls d _ H => E0 cls d H) D) D σ H)
  (tRet (tAndV (tOp (rI0 fun i j => .bl (decide (i ≤ j))) (tVar 8) (tC (.int 100))) (tOp (rEqL K) (tVar 10) (tVar 9)))))))))))))) from (pss_cons (ps_set (i := 1) nd rfl (Or.inl rfl) (pe_cal C_l_names (hr.mono (by omega)) (by rfl) pass0 (pa_cons (pv 0) (pa_cons (pe_op op_add pe_int (pe_cal C_l_draw (hr.mono (by omega)) (by rfl) pass0 (pa_cons (pv 0) (pa_cons pe_int pa_nil)))) pa_nil))))
      (pss_cons (ps_set (i := 2) nd rfl (Or.inl rfl) (pe_op op_add pe_int (pe_cal C_l_draw (hr.mono (by omega)) (by rfl) pass0 (pa_cons (pv 0) (pa_cons pe_int pa_nil)))))
      (pss_cons (ps_set (i := 3) nd rfl (Or.inl rfl) (pe_cal C_l_row (hr.mono (by omega)) (by rfl) pass0 (pa_cons (pe_cal C_l_tall_wood (hr.mono (by omega)) (by rfl) pass0 (pa_cons (pv 0) (pa_cons (pe_slice sl_list (pv 1) po_none (po_some (pv 2))) (pa_cons (pv 2) pa_nil)))) pa_nil)))
      (pss_cons (ps_set (i := 4) nd rfl (Or.inl rfl) (pe_cal C_l_draw (hr.mono (by omega)) (by rfl) pass0 (pa_cons (pv 0) (pa_cons (pe_op op_add (pe_op op_mul pe_int (pv 2)) pe_int) pa_nil))))
      (pss_cons (ps_set (i := 5) nd rfl (Or.inl rfl) (pe_slice sl_list (pv 1) (po_some (pv 2)) po_none))
      (pss_cons (ps_set (i := 6) nd rfl (Or.inl rfl) (pe_op op_cat (pe_lc (own := [("_law_name_here", 11)]) (g := gName 11) (by rfl) nd (pi_list (pv 5)) (blkOk_by (own := [("_law_name_here", 11)]) (N := N_l_deep) (sc := defScope s_l_deep) (by decide +kernel)) (fun _ _ _ _ _ => pg_name (i := 11) nd rfl (Or.inl rfl)) (fun _ _ _ _ _ => pts_nil) (fun _ _ _ _ _ => (pe_op op_add_str pe_str (pv 11)))) (pe_lc (own := [("_law_name_here", 11)]) (g := gName 11) (by rfl) nd (pi_list (pe_revL (pv 5))) (blkOk_by (own := [("_law_name_here", 11)]) (N := N_l_deep) (sc := defScope s_l_deep) (by decide +kernel)) (fun _ _ _ _ _ => pg_name (i := 11) nd rfl (Or.inl rfl)) (fun _ _ _ _ _ => pts_nil) (fun _ _ _ _ _ => (pe_op op_add_str pe_str (pv 11))))))
      (pss_cons (ps_set (i := 7) nd rfl (Or.inl rfl) (pe_op op_cat (pe_op op_cat (pe_op op_rep (pe_lst (pa_cons (pe_tup pa_nil) pa_nil)) (pv 4)) (pe_lst (pa_cons (pe_callTy call_tuple_of (by rfl) n_tuple (by decide +kernel) (pa_cons (pv 6) pa_nil)) pa_nil))) (pe_op op_rep (pe_lst (pa_cons (pe_tup pa_nil) pa_nil)) (pe_op op_sub (pe_op op_mul pe_int (pv 2)) (pv 4)))))
      (pss_cons (ps_set (i := 8) nd rfl (Or.inl rfl) (pe_op op_add (pe_op op_sub (pe_callB call_len_seq (by rfl) n_len (by decide +kernel) (pa_cons (pv 1) pa_nil)) (pv 2)) (pe_callB (call_min2 rfl) (by rfl) n_min (by decide +kernel) (pa_cons (pv 4) (pa_cons (pe_op op_sub (pe_op op_mul pe_int (pv 2)) (pv 4)) pa_nil)))))
      (pss_cons (ps_set (i := 9) nd rfl (Or.inl rfl) (pe_cal C_l_from_row (hr.mono (by omega)) (by rfl) pass0 (pa_cons (pe_op op_catA (pe_op op_catA (pe_slice sl_tupA (pv 3) po_none (po_some (pv 4))) (pe_callTy call_tuple_of (by rfl) n_tuple (by decide +kernel) (pa_cons (pv 6) pa_nil))) (pe_slice sl_tupA (pv 3) (po_some (pv 4)) po_none)) pa_nil)))
      (pss_cons (ps_try_only rfl rfl ⟨by rfl, by decide, .inl g_BadGaps⟩ takes_none5 (fun W pn xe tkW po => (pss_one (ps_set (i := 10) nd rfl (Or.inl rfl) (pe_calS C_filled (hr.mono (by omega)) (by rfl) (fun σ => passAt tkW σ) (pa_cons (pe_cal C_l_from_row (hr.mono (by omega)) (by rfl) pass0 (pa_cons (pv 3) pa_nil)) (pa_cons (pe_callTy call_tuple_of (by rfl) n_tuple (by decide +kernel) (pa_cons (pv 7) pa_nil)) pa_nil)))))) (fun a oe cls d pn hz hf => (pss_one (ps_ret (pe_cmpR op_gt (pv 8) pe_int (nomark _))))))
      (pss_one (ps_ret (pe_and (pe_cmpR op_le (pv 8) pe_int (nomark _)) (pe_one (pe_cmpR (op_eqL hr (by decide)) (pv 10) (pv 9) (nomark _)))))))))))))))))
abbrev N_l_wide_right : List Str := ["_law_deck_here", "_law_names_here", "_law_wood_here", "_law_some"]
theorem sc_l_wide_right : FnScope N_l_wide_right ["_law_deck_here"] (defScope s_l_wide_right) := ⟨rfl, rfl, rfl, by decide +kernel, rfl, by decide +kernel, by decide +kernel⟩
theorem ok_l_wide_right (Dd : Df K mg "_law_wide_right" s_l_wide_right) {A_TwigError A_BadGaps A_BadNames A_BadRow A_NoName : Addr} (g_TwigError : mg "TwigError" = some (.ref A_TwigError)) (g_BadGaps : mg "BadGaps" = some (.ref A_BadGaps)) (g_BadNames : mg "BadNames" = some (.ref A_BadNames)) (g_BadRow : mg "BadRow" = some (.ref A_BadRow)) (g_NoName : mg "NoName" = some (.ref A_NoName)) (c_TwigError : ClsB K mg "TwigError" A_TwigError) (c_BadGaps : ClsB K mg "BadGaps" A_BadGaps) (c_BadNames : ClsB K mg "BadNames" A_BadNames) (c_BadRow : ClsH P w K mg base "BadRow" ["place"] false (sp_initG1 K false A_BadRow "place") A_BadRow 1) (c_NoName : ClsH P w K mg base "NoName" ["name"] true (sp_initG1 K true A_NoName "name") A_NoName 1) (cf : Cf09 K A_TwigError A_BadGaps A_BadNames A_BadRow A_NoName) (C_l_names : Cal P w K mg base CX0 "_law_names" ["_law_deck_here", "_law_many"] 3 sp_l_names) (C_l_draw : Cal P w K mg base CX0 "_law_draw" ["_law_deck_here", "_law_many"] 1 sp_l_draw) (C_wood_of : Cal P w K mg base (L2N.CX P w) "wood_of" ["value"] 4 (spOf K (psp_wood_of A_BadRow))) (C_l_row : Cal P w K mg base CX0 "_law_row" ["_law_wood_here"] 122 (spR K 121)) (C_l_tall_wood : Cal P w K mg base CX0 "_law_tall_wood" ["_law_deck_here", "_law_names_here", "_law_tall"] 123 (sp_l_tall_wood K)) (C_l_chosen : Cal P w K mg base CX0 "_law_chosen" ["_law_deck_here", "_law_names_here"] 2 (sp_l_chosen K)) (C_filled : Cal P w K mg base (L2.CX P w) "filled" ["wood", "value"] 5 (spOf K (psp_filled A_BadGaps))) (C_skeleton_of : Cal P w K mg base CX0 "skeleton_of" ["wood", "names"] 4 (sp_skeleton_of K)) (C_gaps_of : Cal P w K mg base CX0 "gaps_of" ["wood", "names"] 4 (sp_gaps_of K)) : Cal P w K mg base CX0 "_law_wide_right" ["_law_deck_here"] 124 (spOf K psp_l_wide_right) := by
  refine Dd.cal (k := 123) (N := N_l_wide_right) sc_l_wide_right (fun _ _ _ _ _ _ us hl => match us, hl with | [_], _ => rfl) len_l_wide_right (fun f cdv A outer s H vs Q E hr h => ⟨(X_l_wide_right K A_BadGaps A_BadRow).rd (fun _ => E0), PSs.nox ?_, by rw [start_n (n := 4) rfl]; exact pure_l_wide_right vs H Q E h⟩)
  have nd := sc_l_wide_right.nd
  exact (show PSs _ _ (tSeq (tAsg (tCall sp_l_names [] E0 (tCons (tVar 0) (tCons (tOp (rI0 fun i j => .int (i + j)) (tC (.int 121)) (tCall sp_l_draw [] E0 (tCons (tVar 0) (tCons (tC (.int 80)) tNil)))) tNil))) (gName 1))
  (tSeq (tAsg (tCall (spOf K (psp_wood_of A_BadRow)) [] E0 (tCons (tCall (spR K 121) [] E0 (tCons (tCall (sp_l_tall_wood K) [] E0 (tCons (tVar 0) (tCons (tVar 1) (tCons (tOp (rI0 fun i j => .int (i + j)) (tC (.int 1)) (tCall sp_l_draw [] E0 (tCons (tVar 0) (tCons (tC (.int 3)) tNil)))) tNil)))) tNil)) tNil)) (gName 2))
  (tSeq (tAsg (tCall (sp_l_chosen K) [] E0 (tCons (tVar 0) (tCons (L2.tSl (rSlL K) (tVar 1) tNoPart (tPart (tC (.int 10)))) tNil))) (gName 3))
  (tRet (tOp (rEqB K) (tCall (spOf K (psp_filled A_BadGaps)) [] E0 (tCons (tCall (sp_skeleton_of K) [] E0 (tCons (tVar 2) (tCons (tVar 3) tNil))) (tCons (tCall (sp_gaps_of K) [] E0 (tCons (tVar 2) (tCons (tVar 3) tNil))) tNil))) (tVar 2)))))) from (pss_cons (ps_set (i := 1) nd rfl (Or.inl rfl) (pe_cal C_l_names (hr.mono (by omega)) (by rfl) pass0 (pa_cons (pv 0) (pa_cons (pe_op op_add pe_int (pe_cal C_l_draw (hr.mono (by omega)) (by rfl) pass0 (pa_cons (pv 0) (pa_cons pe_int pa_nil)))) pa_nil))))
      (pss_cons (ps_set (i := 2) nd rfl (Or.inl rfl) (pe_cal C_wood_of (hr.mono (by omega)) (by rfl) passN_never (pa_cons (pe_cal C_l_row (hr.mono (by omega)) (by rfl) pass0 (pa_cons (pe_cal C_l_tall_wood (hr.mono (by omega)) (by rfl) pass0 (pa_cons (pv 0) (pa_cons (pv 1) (pa_cons (pe_op op_add pe_int (pe_cal C_l_draw (hr.mono (by omega)) (by rfl) pass0 (pa_cons (pv 0) (pa_cons pe_int pa_nil)))) pa_nil)))) pa_nil)) pa_nil)))
      (pss_cons (ps_set (i := 3) nd rfl (Or.inl rfl) (pe_cal C_l_chosen (hr.mono (by omega)) (by rfl) pass0 (pa_cons (pv 0) (pa_cons (pe_slice sl_list (pv 1) po_none (po_some pe_int)) pa_nil))))
      (pss_one (ps_ret (pe_cmpR (op_eqB hr) (pe_cal C_filled (hr.mono (by omega)) (by rfl) pass0L (pa_cons (pe_cal C_skeleton_of (hr.mono (by omega)) (by rfl) pass0 (pa_cons (pv 2) (pa_cons (pv 3) pa_nil))) (pa_cons (pe_cal C_gaps_of (hr.mono (by omega)) (by rfl) pass0 (pa_cons (pv 2) (pa_cons (pv 3) pa_nil))) pa_nil))) (pv 2) (nomark _))))))))
abbrev N_law : List Str := ["_law_script", "_law_deck_here", "_law_wood_here", "_law_names_here", "_law_skeleton_here", "_law_gaps_here", "_law_again", "_law_end"]
theorem sc_law : FnScope N_law ["_law_script"] (defScope s_law) := ⟨rfl, rfl, rfl, by decide +kernel, rfl, by decide +kernel, by decide +kernel⟩
theorem ok_law {fa : Addr} {fd : FuncData} (F : FunD K "law" "law" (defArgs s_law) (defBody s_law) (defScope s_law) [] [] fa fd) {A_TwigError A_BadGaps A_BadNames A_BadRow A_NoName : Addr} (g_TwigError : mg "TwigError" = some (.ref A_TwigError)) (g_BadGaps : mg "BadGaps" = some (.ref A_BadGaps)) (g_BadNames : mg "BadNames" = some (.ref A_BadNames)) (g_BadRow : mg "BadRow" = some (.ref A_BadRow)) (g_NoName : mg "NoName" = some (.ref A_NoName)) (c_TwigError : ClsB K mg "TwigError" A_TwigError) (c_BadGaps : ClsB K mg "BadGaps" A_BadGaps) (c_BadNames : ClsB K mg "BadNames" A_BadNames) (c_BadRow : ClsH P w K mg base "BadRow" ["place"] false (sp_initG1 K false A_BadRow "place") A_BadRow 1) (c_NoName : ClsH P w K mg base "NoName" ["name"] true (sp_initG1 K true A_NoName "name") A_NoName 1) (cf : Cf09 K A_TwigError A_BadGaps A_BadNames A_BadRow A_NoName) (C_l_deck : Cal P w K mg base CX0 "_law_deck" ["_law_script"] 1 (sp_l_deck K)) (C_l_draw : Cal P w K mg base CX0 "_law_draw" ["_law_deck_here", "_law_many"] 1 sp_l_draw) (C_l_wide_right : Cal P w K mg base CX0 "_law_wide_right" ["_law_deck_here"] 124 (spOf K psp_l_wide_right)) (C_l_some_wood : Cal P w K mg base CX0 "_law_some_wood" ["_law_deck_here"] 125 (sp_l_some_wood K)) (C_l_chosen : Cal P w K mg base CX0 "_law_chosen" ["_law_deck_here", "_law_names_here"] 2 (sp_l_chosen K)) (C_l_row : Cal P w K mg base CX0 "_law_row" ["_law_wood_here"] 122 (spR K 121)) (C_skeleton_of : Cal P w K mg base CX0 "skeleton_of" ["wood", "names"] 4 (sp_skeleton_of K)) (C_gaps_of : Cal P w K mg base CX0 "gaps_of" ["wood", "names"] 4 (sp_gaps_of K)) (C_filled : Cal P w K mg base (L2.CX P w) "filled" ["wood", "value"] 5 (spOf K (psp_filled A_BadGaps))) (C_l_deep : Cal P w K mg base CX0 "_law_deep" ["_law_deck_here"] 124 (spOf K psp_l_deep)) : FnOk P w K mg base CX0 126 fa fd ["_law_script"] (sp_law K) := by
  refine F.ok (k := 125) sc_law len_law (fun cdv A outer s H vs Q E hr h => ⟨(lawT K 1 (X_law K A_BadGaps)), PSs.nox ?_, by rw [start_n (n := 8) rfl]; exact pure_law vs H Q E h⟩)
  have nd := sc_law.nd
  exact (show PSs _ _ (tSeq (tAsg (tCall (sp_l_deck K) [] E0 (tCons (tVar 0) tNil)) (gName 1))
  (tSeq (tIfS (tAnd (tTest (tOp rEq (tCall sp_l_draw [] E0 (tCons (tVar 1) (tCons (tC (.int 8)) tNil))) (tC (.int 5)))) (tNot (tB (tCall (spOf K psp_l_wide_right) [] E0 (tCons (tVar 1) tNil))))) (tRet (tC (.bl false))) tNext)
  (tSeq (tAsg (tCall (sp_l_some_wood K) [] E0 (tCons (tVar 1) tNil)) (gName 2))
  (tSeq (tAsg (tCall (sp_l_chosen K) [] E0 (tCons (tVar 1) (tCons (tLc (iTup K (tCall (spR K 121) [] E0 (tCons (tVar 2) tNil))) (gName 7) (tTest (tOp rEq (tOp rIxS (tVar 7) (tC (.int 0))) (tC (.str "+")))) (L2.tSl rSlS (tVar 7) (tPart (tC (.int 1))) tNoPart) [7]) tNil))) (gName 3))
  (tSeq (tPar 4 5 (tCons (tCall (sp_skeleton_of K) [] E0 (tCons (tVar 2) (tCons (tVar 3) tNil))) (tCons (tCall (sp_gaps_of K) [] E0 (tCons (tVar 2) (tCons (tVar 3) tNil))) tNil)))
  (tSeq (tIfS (tTest (tOp (rNeB K) (tCall (spOf K (psp_filled A_BadGaps)) [] E0 (tCons (tVar 4) (tCons (tVar 5) tNil))) (tVar 2))) (tRet (tC (.bl false))) tNext)
  (tSeq (tAsg (tCall (sp_skeleton_of K) [] E0 (tCons (tCall (spOf K (psp_filled A_BadGaps)) [] E0 (tCons (tVar 4) (tCons (tVar 5) tNil))) (tCons (tVar 3) tNil))) (gName 6))
  (tSeq (tIfS (tOr (tTest (tOp (rNeB K) (tVar 6) (tVar 4))) (tTest (tOp (rNeB K) (tCall (sp_gaps_of K) [] E0 (tCons (tCall (spOf K (psp_filled A_BadGaps)) [] E0 (tCons (tVar 4) (tCons (tVar 5) tNil))) (tCons (tVar 3) tNil))) (tVar 5)))) (tRet (tC (.bl false))) tNext)
  (tRet (tCall (spOf K psp_l_deep) [] E0 (tCons (tVar 1) tNil))))))))))) from (pss_cons (ps_set (i := 1) nd rfl (Or.inl rfl) (pe_cal C_l_deck (hr.mono (by omega)) (by rfl) pass0 (pa_cons (pv 0) pa_nil)))
      (pss_cons (ps_if (PW.pt (pw_and (pt_cmpR op_eq (pe_cal C_l_draw (hr.mono (by omega)) (by rfl) pass0 (pa_cons (pv 1) (pa_cons pe_int pa_nil))) pe_int (nomark _)) (pw_and1 (pt_not (pt_val (pe_cal C_l_wide_right (hr.mono (by omega)) (by rfl) pass0 (pa_cons (pv 1) pa_nil))))))) (pss_one (ps_ret pe_bl)) pss_nil)
      (pss_cons (ps_set (i := 2) nd rfl (Or.inl rfl) (pe_cal C_l_some_wood (hr.mono (by omega)) (by rfl) pass0 (pa_cons (pv 1) pa_nil)))
      (pss_cons (ps_set (i := 3) nd rfl (Or.inl rfl) (pe_cal C_l_chosen (hr.mono (by omega)) (by rfl) pass0 (pa_cons (pv 1) (pa_cons (pe_lc (own := [("_law_end", 7)]) (g := gName 7) (by rfl) nd (pi_tup (pe_cal C_l_row (hr.mono (by omega)) (by rfl) pass0 (pa_cons (pv 2) pa_nil))) (blkOk_by (own := [("_law_end", 7)]) (N := N_law) (sc := defScope s_law) (by decide +kernel)) (fun _ _ _ _ _ => pg_name (i := 7) nd rfl (Or.inl rfl)) (fun _ _ _ _ _ => (pts_one (pt_cmpR op_eq (pe_ix ix_str (pv 7) pe_int (fun _ _ => rfl)) pe_str (nomark _)))) (fun _ _ _ _ _ => (pe_slice sl_str (pv 7) (po_some pe_int) po_none))) pa_nil))))
      (pss_cons (ps_par (i := 4) (j := 5) (by rfl) nd rfl rfl (by decide) rfl rfl (pa_cons (pe_cal C_skeleton_of (hr.mono (by omega)) (by rfl) pass0 (pa_cons (pv 2) (pa_cons (pv 3) pa_nil))) (pa_cons (pe_cal C_gaps_of (hr.mono (by omega)) (by rfl) pass0 (pa_cons (pv 2) (pa_cons (pv 3) pa_nil))) pa_nil)) (by rfl))
      (pss_cons (ps_if (pt_cmpR (op_neB hr) (pe_cal C_filled (hr.mono (by omega)) (by rfl) pass0L (pa_cons (pv 4) (pa_cons (pv 5) pa_nil))) (pv 2) (nomark _)) (pss_one (ps_ret pe_bl)) pss_nil)
      (pss_cons (ps_set (i := 6) nd rfl (Or.inl rfl) (pe_cal C_skeleton_of (hr.mono (by omega)) (by rfl) pass0 (pa_cons (pe_cal C_filled (hr.mono (by omega)) (by rfl) pass0L (pa_cons (pv 4) (pa_cons (pv 5) pa_nil))) (pa_cons (pv 3) pa_nil))))
      (pss_cons (ps_if (PW.pt (pw_or (pt_cmpR (op_neB hr) (pv 6) (pv 4) (nomark _)) (pw_or1 (pt_cmpR (op_neB hr) (pe_cal C_gaps_of (hr.mono (by omega)) (by rfl) pass0 (pa_cons (pe_cal C_filled (hr.mono (by omega)) (by rfl) pass0L (pa_cons (pv 4) (pa_cons (pv 5) pa_nil))) (pa_cons (pv 3) pa_nil))) (pv 5) (nomark _))))) (pss_one (ps_ret pe_bl)) pss_nil)
      (pss_one (ps_ret (pe_cal C_l_deep (hr.mono (by omega)) (by rfl) pass0 (pa_cons (pv 1) pa_nil)))))))))))))
end

/-! the head -/
def d_is_name : He.DefD := ⟨("is_name", none), "is_name", "is_name", defArgs s_is_name, defBody s_is_name, defScope s_is_name, [], []⟩
def d_are_unlike_names : He.DefD := ⟨("are_unlike_names", none), "are_unlike_names", "are_unlike_names", defArgs s_are_unlike_names, defBody s_are_unlike_names, defScope s_are_unlike_names, [], []⟩
def d_row_of : He.DefD := ⟨("row_of", none), "row_of", "row_of", defArgs s_row_of, defBody s_row_of, defScope s_row_of, [], []⟩
def d_u_is_end : He.DefD := ⟨("_is_end", none), "_is_end", "_is_end", defArgs s_u_is_end, defBody s_u_is_end, defScope s_u_is_end, [], []⟩
def d_u_bad_place : He.DefD := ⟨("_bad_place", none), "_bad_place", "_bad_place", defArgs s_u_bad_place, defBody s_u_bad_place, defScope s_u_bad_place, [], []⟩
def d_unchecked_wood : He.DefD := ⟨("unchecked_wood", none), "unchecked_wood", "unchecked_wood", defArgs s_unchecked_wood, defBody s_unchecked_wood, defScope s_unchecked_wood, [], []⟩
def d_wood_of : He.DefD := ⟨("wood_of", none), "wood_of", "wood_of", defArgs s_wood_of, defBody s_wood_of, defScope s_wood_of, [], []⟩
def d_parents_of : He.DefD := ⟨("parents_of", none), "parents_of", "parents_of", defArgs s_parents_of, defBody s_parents_of, defScope s_parents_of, [], []⟩
def d_u_check_there : He.DefD := ⟨("_check_there", none), "_check_there", "_check_there", defArgs s_u_check_there, defBody s_u_check_there, defScope s_u_check_there, [], []⟩
def d_u_check_names : He.DefD := ⟨("_check_names", none), "_check_names", "_check_names", defArgs s_u_check_names, defBody s_u_check_names, defScope s_u_check_names, [], []⟩
def d_skeleton_of : He.DefD := ⟨("skeleton_of", none), "skeleton_of", "skeleton_of", defArgs s_skeleton_of, defBody s_skeleton_of, defScope s_skeleton_of, [], []⟩
def d_gaps_of : He.DefD := ⟨("gaps_of", none), "gaps_of", "gaps_of", defArgs s_gaps_of, defBody s_gaps_of, defScope s_gaps_of, [], []⟩
def d_u_are_tuples : He.DefD := ⟨("_are_tuples", none), "_are_tuples", "_are_tuples", defArgs s_u_are_tuples, defBody s_u_are_tuples, defScope s_u_are_tuples, [], []⟩
def d_filled : He.DefD := ⟨("filled", none), "filled", "filled", defArgs s_filled, defBody s_filled, defScope s_filled, [], []⟩
def d_l_deck : He.DefD := ⟨("_law_deck", none), "_law_deck", "_law_deck", defArgs s_l_deck, defBody s_l_deck, defScope s_l_deck, [], []⟩
def d_l_wood_of : He.DefD := ⟨("_law_wood_of", none), "_law_wood_of", "_law_wood_of", defArgs s_l_wood_of, defBody s_l_wood_of, defScope s_l_wood_of, [], []⟩
def d_l_draw : He.DefD := ⟨("_law_draw", none), "_law_draw", "_law_draw", defArgs s_l_draw, defBody s_l_draw, defScope s_l_draw, [], []⟩
def d_l_wood : He.DefD := ⟨("_law_wood", none), "_law_wood", "_law_wood", defArgs s_l_wood, defBody s_l_wood, defScope s_l_wood, [], []⟩
def d_l_tall_wood : He.DefD := ⟨("_law_tall_wood", none), "_law_tall_wood", "_law_tall_wood", defArgs s_l_tall_wood, defBody s_l_tall_wood, defScope s_l_tall_wood, [], []⟩
def d_l_name : He.DefD := ⟨("_law_name", none), "_law_name", "_law_name", defArgs s_l_name, defBody s_l_name, defScope s_l_name, [], []⟩
def d_l_names : He.DefD := ⟨("_law_names", none), "_law_names", "_law_names", defArgs s_l_names, defBody s_l_names, defScope s_l_names, [], []⟩
def d_l_wood_and_names : He.DefD := ⟨("_law_wood_and_names", none), "_law_wood_and_names", "_law_wood_and_names", defArgs s_l_wood_and_names, defBody s_l_wood_and_names, defScope s_l_wood_and_names, [], []⟩
def d_l_some_wood : He.DefD := ⟨("_law_some_wood", none), "_law_some_wood", "_law_some_wood", defArgs s_l_some_wood, defBody s_l_some_wood, defScope s_l_some_wood, [], []⟩
def d_l_row : He.DefD := ⟨("_law_row", none), "_law_row", "_law_row", defArgs s_l_row, defBody s_l_row, defScope s_l_row, [], []⟩
def d_l_from_row : He.DefD := ⟨("_law_from_row", none), "_law_from_row", "_law_from_row", defArgs s_l_from_row, defBody s_l_from_row, defScope s_l_from_row, [], []⟩
def d_l_chosen : He.DefD := ⟨("_law_chosen", none), "_law_chosen", "_law_chosen", defArgs s_l_chosen, defBody s_l_chosen, defScope s_l_chosen, [], []⟩
def d_l_deep : He.DefD := ⟨("_law_deep", none), "_law_deep", "_law_deep", defArgs s_l_deep, defBody s_l_deep, defScope s_l_deep, [], []⟩
def d_l_wide_right : He.DefD := ⟨("_law_wide_right", none), "_law_wide_right", "_law_wide_right", defArgs s_l_wide_right, defBody s_l_wide_right, defScope s_l_wide_right, [], []⟩
def d_law : He.DefD := ⟨("law", none), "law", "law", defArgs s_law, defBody s_law, defScope s_law, [], []⟩
def d_BadRow_init : He.DefD := ⟨("BadRow", some "__init__"), "__init__", "BadRow.__init__", defArgs s_BadRow_init, defBody s_BadRow_init, defScope s_BadRow_init, [], []⟩
def d_NoName_init : He.DefD := ⟨("NoName", some "__init__"), "__init__", "NoName.__init__", defArgs s_NoName_init, defBody s_NoName_init, defScope s_NoName_init, [], []⟩
def fn : List He.DefD := [d_is_name, d_are_unlike_names, d_row_of, d_u_is_end, d_u_bad_place, d_unchecked_wood, d_wood_of, d_parents_of, d_u_check_there, d_u_check_names, d_skeleton_of, d_gaps_of, d_u_are_tuples, d_filled, d_l_deck, d_l_wood_of, d_l_draw, d_l_wood, d_l_tall_wood, d_l_name, d_l_names, d_l_wood_and_names, d_l_some_wood, d_l_row, d_l_from_row, d_l_chosen, d_l_deep, d_l_wide_right, d_law, d_BadRow_init, d_NoName_init]
def ck : List Ck := [.bare "TwigError", .bare "BadGaps", .bare "BadNames", .has "BadRow" ["place"] false, .has "NoName" ["name"] true, .exm "BadRow" "BadRow" true, .exm "BadGaps" "BadGaps" true]
def fa : List He.Fa := [.glo "is_name", .glo "are_unlike_names", .glo "row_of", .glo "_is_end", .glo "_bad_place", .glo "unchecked_wood", .glo "wood_of", .glo "parents_of", .glo "_check_there", .glo "_check_names", .glo "skeleton_of", .glo "gaps_of", .glo "_are_tuples", .glo "filled", .glo "_law_deck", .glo "_law_wood_of", .glo "_law_draw", .glo "_law_wood", .glo "_law_tall_wood", .glo "_law_name", .glo "_law_names", .glo "_law_wood_and_names", .glo "_law_some_wood", .glo "_law_row", .glo "_law_from_row", .glo "_law_chosen", .glo "_law_deep", .glo "_law_wide_right", .glo "law", .free "isinstance", .free "str", .free "len", .free "tuple", .free "all", .free "set", .free "list", .free "enumerate", .free "zip", .free "abs", .free "int", .free "range", .free "min", .int "_LONGEST" 8, .int "_MOST_AROUND" 100, .glo "TwigError", .glo "BadGaps", .glo "BadNames", .glo "BadRow", .glo "NoName"]
abbrev R : PySem.W.OpenRow := PySem.W.OpenLaw.row PySem.Challenge.rw_twigscripts_k09_whole_woods_parted_and_p
abbrev hk : PySem.W.Hook := He.hookX 4 fa fn [] [] (ckB ck)
def ob (s : PySem.W.SharedT) : He.AlX := He.obsX 4 fa fn [] [] (ckB ck) (HandSHeadRun.getT s)
theorem ob_eq (s : PySem.W.SharedT) : ob s = hk.obs s.abs := He.obsX_eq (HandSHeadRun.getT_eq s)
abbrev looseN : List Str := "TwigError" :: "BadGaps" :: "BadNames" :: "BadRow" :: "NoName" :: "_LONGEST" :: "is_name" :: "are_unlike_names" :: "_MOST_AROUND" :: "row_of" :: "wood_of" :: "_bad_place" :: "_is_end" :: "unchecked_wood" :: "parents_of" :: "_check_there" :: "skeleton_of" :: "gaps_of" :: "_check_names" :: "filled" :: "_are_tuples" :: "_law_deck" :: "_law_wood_of" :: "_law_draw" :: "_law_wood" :: "_law_tall_wood" :: "_law_name" :: "_law_names" :: "_law_wood_and_names" :: "_law_some_wood" :: "_law_row" :: "_law_from_row" :: "_law_skeleton" :: "_law_gaps" :: "_law_cut" :: "_law_chosen" :: "_law_deep" :: "_law_wide_right" :: []
theorem run (w : World) : HandSHeadRun.RunEq R (PySem.W.view R.prog [42]) hk ob 4000 looseN w := by
  intro os
  kernel_rfl
theorem facts {P : Program} {w : World} {K : PySem.W.Frag} {h h0 : Heap} {mg : Str → Option Value} (X : K.In h) (G : h.Ns mainGlobals mg) (cx : He.SaysX fa fn [] [] (ckB ck) w h0 K) (base : Heap) {la : Addr} {ld : FuncData}
    (F : FunD K "law" "law" (defArgs s_law) (defBody s_law) (defScope s_law) [] [] la ld) : FnOk P w K mg base CX0 126 la ld ["_law_script"] (sp_law K) := by
  have c := cx.t.d
  have D_is_name : Df K mg "is_name" s_is_name := by
    obtain ⟨fd, F⟩ := c.def_ 0 (d := d_is_name) rfl
    exact ⟨_, fd, He.glo_ok X G (c.fact 0 (f := .glo "is_name") rfl), F⟩
  have D_are_unlike_names : Df K mg "are_unlike_names" s_are_unlike_names := by
    obtain ⟨fd, F⟩ := c.def_ 1 (d := d_are_unlike_names) rfl
    exact ⟨_, fd, He.glo_ok X G (c.fact 1 (f := .glo "are_unlike_names") rfl), F⟩
  have D_row_of : Df K mg "row_of" s_row_of := by
    obtain ⟨fd, F⟩ := c.def_ 2 (d := d_row_of) rfl
    exact ⟨_, fd, He.glo_ok X G (c.fact 2 (f := .glo "row_of") rfl), F⟩
  have D_u_is_end : Df K mg "_is_end" s_u_is_end := by
    obtain ⟨fd, F⟩ := c.def_ 3 (d := d_u_is_end) rfl
    exact ⟨_, fd, He.glo_ok X G (c.fact 3 (f := .glo "_is_end") rfl), F⟩
  have D_u_bad_place : Df K mg "_bad_place" s_u_bad_place := by
    obtain ⟨fd, F⟩ := c.def_ 4 (d := d_u_bad_place) rfl
    exact ⟨_, fd, He.glo_ok X G (c.fact 4 (f := .glo "_bad_place") rfl), F⟩
  have D_unchecked_wood : Df K mg "unchecked_wood" s_unchecked_wood := by
    obtain ⟨fd, F⟩ := c.def_ 5 (d := d_unchecked_wood) rfl
    exact ⟨_, fd, He.glo_ok X G (c.fact 5 (f := .glo "unchecked_wood") rfl), F⟩
  have D_wood_of : Df K mg "wood_of" s_wood_of := by
    obtain ⟨fd, F⟩ := c.def_ 6 (d := d_wood_of) rfl
    exact ⟨_, fd, He.glo_ok X G (c.fact 6 (f := .glo "wood_of") rfl), F⟩
  have D_parents_of : Df K mg "parents_of" s_parents_of := by
    obtain ⟨fd, F⟩ := c.def_ 7 (d := d_parents_of) rfl
    exact ⟨_, fd, He.glo_ok X G (c.fact 7 (f := .glo "parents_of") rfl), F⟩
  have D_u_check_there : Df K mg "_check_there" s_u_check_there := by
    obtain ⟨fd, F⟩ := c.def_ 8 (d := d_u_check_there) rfl
    exact ⟨_, fd, He.glo_ok X G (c.fact 8 (f := .glo "_check_there") rfl), F⟩
  have D_u_check_names : Df K mg "_check_names" s_u_check_names := by
    obtain ⟨fd, F⟩ := c.def_ 9 (d := d_u_check_names) rfl
    exact ⟨_, fd, He.glo_ok X G (c.fact 9 (f := .glo "_check_names") rfl), F⟩
  have D_skeleton_of : Df K mg "skeleton_of" s_skeleton_of := by
    obtain ⟨fd, F⟩ := c.def_ 10 (d := d_skeleton_of) rfl
    exact ⟨_, fd, He.glo_ok X G (c.fact 10 (f := .glo "skeleton_of") rfl), F⟩
  have D_gaps_of : Df K mg "gaps_of" s_gaps_of := by
    obtain ⟨fd, F⟩ := c.def_ 11 (d := d_gaps_of) rfl
    exact ⟨_, fd, He.glo_ok X G (c.fact 11 (f := .glo "gaps_of") rfl), F⟩
  have D_u_are_tuples : Df K mg "_are_tuples" s_u_are_tuples := by
    obtain ⟨fd, F⟩ := c.def_ 12 (d := d_u_are_tuples) rfl
    exact ⟨_, fd, He.glo_ok X G (c.fact 12 (f := .glo "_are_tuples") rfl), F⟩
  have D_filled : Df K mg "filled" s_filled := by
    obtain ⟨fd, F⟩ := c.def_ 13 (d := d_filled) rfl
    exact ⟨_, fd, He.glo_ok X G (c.fact 13 (f := .glo "filled") rfl), F⟩
  have D_l_deck : Df K mg "_law_deck" s_l_deck := by
    obtain ⟨fd, F⟩ := c.def_ 14 (d := d_l_deck) rfl
    exact ⟨_, fd, He.glo_ok X G (c.fact 14 (f := .glo "_law_deck") rfl), F⟩
  have D_l_wood_of : Df K mg "_law_wood_of" s_l_wood_of := by
    obtain ⟨fd, F⟩ := c.def_ 15 (d := d_l_wood_of) rfl
    exact ⟨_, fd, He.glo_ok X G (c.fact 15 (f := .glo "_law_wood_of") rfl), F⟩
  have D_l_draw : Df K mg "_law_draw" s_l_draw := by
    obtain ⟨fd, F⟩ := c.def_ 16 (d := d_l_draw) rfl
    exact ⟨_, fd, He.glo_ok X G (c.fact 16 (f := .glo "_law_draw") rfl), F⟩
  have D_l_wood : Df K mg "_law_wood" s_l_wood := by
    obtain ⟨fd, F⟩ := c.def_ 17 (d := d_l_wood) rfl
    exact ⟨_, fd, He.glo_ok X G (c.fact 17 (f := .glo "_law_wood") rfl), F⟩
  have D_l_tall_wood : Df K mg "_law_tall_wood" s_l_tall_wood := by
    obtain ⟨fd, F⟩ := c.def_ 18 (d := d_l_tall_wood) rfl
    exact ⟨_, fd, He.glo_ok X G (c.fact 18 (f := .glo "_law_tall_wood") rfl), F⟩
  have D_l_name : Df K mg "_law_name" s_l_name := by
    obtain ⟨fd, F⟩ := c.def_ 19 (d := d_l_name) rfl
    exact ⟨_, fd, He.glo_ok X G (c.fact 19 (f := .glo "_law_name") rfl), F⟩
  have D_l_names : Df K mg "_law_names" s_l_names := by
    obtain ⟨fd, F⟩ := c.def_ 20 (d := d_l_names) rfl
    exact ⟨_, fd, He.glo_ok X G (c.fact 20 (f := .glo "_law_names") rfl), F⟩
  have D_l_wood_and_names : Df K mg "_law_wood_and_names" s_l_wood_and_names := by
    obtain ⟨fd, F⟩ := c.def_ 21 (d := d_l_wood_and_names) rfl
    exact ⟨_, fd, He.glo_ok X G (c.fact 21 (f := .glo "_law_wood_and_names") rfl), F⟩
  have D_l_some_wood : Df K mg "_law_some_wood" s_l_some_wood := by
    obtain ⟨fd, F⟩ := c.def_ 22 (d := d_l_some_wood) rfl
    exact ⟨_, fd, He.glo_ok X G (c.fact 22 (f := .glo "_law_some_wood") rfl), F⟩
  have D_l_row : Df K mg "_law_row" s_l_row := by
    obtain ⟨fd, F⟩ := c.def_ 23 (d := d_l_row) rfl
    exact ⟨_, fd, He.glo_ok X G (c.fact 23 (f := .glo "_law_row") rfl), F⟩
  have D_l_from_row : Df K mg "_law_from_row" s_l_from_row := by
    obtain ⟨fd, F⟩ := c.def_ 24 (d := d_l_from_row) rfl
    exact ⟨_, fd, He.glo_ok X G (c.fact 24 (f := .glo "_law_from_row") rfl), F⟩
  have D_l_chosen : Df K mg "_law_chosen" s_l_chosen := by
    obtain ⟨fd, F⟩ := c.def_ 25 (d := d_l_chosen) rfl
    exact ⟨_, fd, He.glo_ok X G (c.fact 25 (f := .glo "_law_chosen") rfl), F⟩
  have D_l_deep : Df K mg "_law_deep" s_l_deep := by
    obtain ⟨fd, F⟩ := c.def_ 26 (d := d_l_deep) rfl
    exact ⟨_, fd, He.glo_ok X G (c.fact 26 (f := .glo "_law_deep") rfl), F⟩
  have D_l_wide_right : Df K mg "_law_wide_right" s_l_wide_right := by
    obtain ⟨fd, F⟩ := c.def_ 27 (d := d_l_wide_right) rfl
    exact ⟨_, fd, He.glo_ok X G (c.fact 27 (f := .glo "_law_wide_right") rfl), F⟩
  have n_isinstance := He.free_ok X G (c.fact 29 (f := .free "isinstance") rfl)
  have n_str := He.free_ok X G (c.fact 30 (f := .free "str") rfl)
  have n_len := He.free_ok X G (c.fact 31 (f := .free "len") rfl)
  have n_tuple := He.free_ok X G (c.fact 32 (f := .free "tuple") rfl)
  have n_all := He.free_ok X G (c.fact 33 (f := .free "all") rfl)
  have n_set := He.free_ok X G (c.fact 34 (f := .free "set") rfl)
  have n_list := He.free_ok X G (c.fact 35 (f := .free "list") rfl)
  have n_enumerate := He.free_ok X G (c.fact 36 (f := .free "enumerate") rfl)
  have n_zip := He.free_ok X G (c.fact 37 (f := .free "zip") rfl)
  have n_abs := He.free_ok X G (c.fact 38 (f := .free "abs") rfl)
  have n_int := He.free_ok X G (c.fact 39 (f := .free "int") rfl)
  have n_range := He.free_ok X G (c.fact 40 (f := .free "range") rfl)
  have n_min := He.free_ok X G (c.fact 41 (f := .free "min") rfl)
  obtain ⟨t__LONGEST, g__LONGEST⟩ := He.int_ok X G (c.fact 42 (f := .int "_LONGEST" 8) rfl)
  obtain ⟨t__MOST_AROUND, g__MOST_AROUND⟩ := He.int_ok X G (c.fact 43 (f := .int "_MOST_AROUND" 100) rfl)
  have g_TwigError := He.glo_ok X G (c.fact 44 (f := .glo "TwigError") rfl)
  have g_BadGaps := He.glo_ok X G (c.fact 45 (f := .glo "BadGaps") rfl)
  have g_BadNames := He.glo_ok X G (c.fact 46 (f := .glo "BadNames") rfl)
  have g_BadRow := He.glo_ok X G (c.fact 47 (f := .glo "BadRow") rfl)
  have g_NoName := He.glo_ok X G (c.fact 48 (f := .glo "NoName") rfl)
  obtain ⟨fd_BadRow, F_BadRow⟩ := c.def_ 29 (d := d_BadRow_init) rfl
  obtain ⟨fd_NoName, F_NoName⟩ := c.def_ 30 (d := d_NoName_init) rfl
  have c_TwigError : ClsB K mg "TwigError" (He.ga K "TwigError") := clsB_of (ck_at cx.more 0 rfl) g_TwigError
  have c_BadGaps : ClsB K mg "BadGaps" (He.ga K "BadGaps") := clsB_of (ck_at cx.more 1 rfl) g_BadGaps
  have c_BadNames : ClsB K mg "BadNames" (He.ga K "BadNames") := clsB_of (ck_at cx.more 2 rfl) g_BadNames
  have c_BadRow : ClsH P w K mg base "BadRow" ["place"] false (sp_initG1 K false (He.ga K "BadRow") "place") (He.ga K "BadRow") 1 := clsH_of (ck_at cx.more 3 rfl) g_BadRow (ok_BadRow_init F_BadRow) (F_BadRow.bindsN (fun _ _ _ _ _ _ us hl => match us, hl with | [_, _], _ => rfl))
  have c_NoName : ClsH P w K mg base "NoName" ["name"] true (sp_initG1 K true (He.ga K "NoName") "name") (He.ga K "NoName") 1 := clsH_of (ck_at cx.more 4 rfl) g_NoName (ok_NoName_init F_NoName) (F_NoName.bindsN (fun _ _ _ _ _ _ us hl => match us, hl with | [_, _], _ => rfl))
  have cf : Cf09 K (He.ga K "TwigError") (He.ga K "BadGaps") (He.ga K "BadNames") (He.ga K "BadRow") (He.ga K "NoName") := ⟨of_decide_eq_true (ck_at cx.more 5 (c := .exm "BadRow" "BadRow" true) rfl), of_decide_eq_true (ck_at cx.more 6 (c := .exm "BadGaps" "BadGaps" true) rfl)⟩
  have C_is_name := ok_is_name (P := P) (w := w) (base := base) D_is_name n_isinstance n_str n_len g__LONGEST
  have C_are_unlike_names := ok_are_unlike_names (P := P) (w := w) (base := base) D_are_unlike_names n_isinstance n_tuple n_all n_len n_set C_is_name
  have C_row_of := ok_row_of (P := P) (w := w) (base := base) D_row_of n_list n_isinstance n_str n_tuple
  have C_u_is_end := ok_u_is_end (P := P) (w := w) (base := base) D_u_is_end n_isinstance n_str C_is_name
  have C_u_bad_place := ok_u_bad_place (P := P) (w := w) (base := base) D_u_bad_place n_enumerate n_len g__MOST_AROUND C_u_is_end
  have C_unchecked_wood := ok_unchecked_wood (P := P) (w := w) (base := base) D_unchecked_wood n_len n_tuple
  have C_wood_of := ok_wood_of (P := P) (w := w) (base := base) D_wood_of g_TwigError g_BadGaps g_BadNames g_BadRow g_NoName c_TwigError c_BadGaps c_BadNames c_BadRow c_NoName cf n_isinstance n_tuple C_u_bad_place C_unchecked_wood
  have C_parents_of := ok_parents_of (P := P) (w := w) (base := base) D_parents_of C_row_of
  have C_u_check_there := ok_u_check_there (P := P) (w := w) (base := base) D_u_check_there n_isinstance n_str
  have C_u_check_names := ok_u_check_names (P := P) (w := w) (base := base) D_u_check_names C_are_unlike_names C_u_check_there C_parents_of
  have C_skeleton_of := ok_skeleton_of (P := P) (w := w) (base := base) D_skeleton_of C_u_check_names C_unchecked_wood C_row_of
  have C_gaps_of := ok_gaps_of (P := P) (w := w) (base := base) D_gaps_of n_tuple C_u_check_names C_row_of
  have C_u_are_tuples := ok_u_are_tuples (P := P) (w := w) (base := base) D_u_are_tuples n_isinstance n_tuple n_len n_all
  have C_filled := ok_filled (P := P) (w := w) (base := base) D_filled g_TwigError g_BadGaps g_BadNames g_BadRow g_NoName c_TwigError c_BadGaps c_BadNames c_BadRow c_NoName cf n_len n_list n_zip n_tuple C_row_of C_u_are_tuples C_wood_of
  have C_l_deck := ok_l_deck (P := P) (w := w) (base := base) D_l_deck n_len n_abs n_int
  have C_l_wood_of := ok_l_wood_of (P := P) (w := w) (base := base) D_l_wood_of n_tuple
  have C_l_draw := ok_l_draw (P := P) (w := w) (base := base) D_l_draw n_int
  have C_l_wood := ok_l_wood (P := P) (w := w) (base := base) D_l_wood n_list n_len C_l_draw C_l_wood_of
  have C_l_tall_wood := ok_l_tall_wood (P := P) (w := w) (base := base) D_l_tall_wood n_range n_len C_l_draw C_l_wood_of
  have C_l_name := ok_l_name (P := P) (w := w) (base := base) D_l_name n_range C_l_draw
  have C_l_names := ok_l_names (P := P) (w := w) (base := base) D_l_names n_range C_l_draw C_l_name
  have C_l_wood_and_names := ok_l_wood_and_names (P := P) (w := w) (base := base) D_l_wood_and_names C_l_draw C_l_names C_l_tall_wood C_l_wood
  have C_l_some_wood := ok_l_some_wood (P := P) (w := w) (base := base) D_l_some_wood C_l_wood_and_names
  have C_l_row := ok_l_row (P := P) (w := w) (base := base) D_l_row 
  have C_l_from_row := ok_l_from_row (P := P) (w := w) (base := base) D_l_from_row 
  have C_l_chosen := ok_l_chosen (P := P) (w := w) (base := base) D_l_chosen n_len n_tuple C_l_draw
  have C_l_deep := ok_l_deep (P := P) (w := w) (base := base) D_l_deep g_TwigError g_BadGaps g_BadNames g_BadRow g_NoName c_TwigError c_BadGaps c_BadNames c_BadRow c_NoName cf n_tuple n_len n_min C_l_names C_l_draw C_l_row C_l_tall_wood C_l_from_row C_filled
  have C_l_wide_right := ok_l_wide_right (P := P) (w := w) (base := base) D_l_wide_right g_TwigError g_BadGaps g_BadNames g_BadRow g_NoName c_TwigError c_BadGaps c_BadNames c_BadRow c_NoName cf C_l_names C_l_draw C_wood_of C_l_row C_l_tall_wood C_l_chosen C_filled C_skeleton_of C_gaps_of
  exact ok_law F g_TwigError g_BadGaps g_BadNames g_BadRow g_NoName c_TwigError c_BadGaps c_BadNames c_BadRow c_NoName cf C_l_deck C_l_draw C_l_wide_right C_l_some_wood C_l_chosen C_l_row C_skeleton_of C_gaps_of C_filled C_l_deep
end TwLaw
open PySem PySem.W PySem.Calls PyProof.Rows
theorem PySem.Challenge.cw_twigscripts_k09_whole_woods_parted_and_p_holds : PySem.Challenge.rw_twigscripts_k09_whole_woods_parted_and_p.Holds := by
  w_on; o_law
  refine HandSHeadRun.head_any (r := OpenLaw.row PySem.Challenge.rw_twigscripts_k09_whole_woods_parted_and_p) (q := view (OpenLaw.row PySem.Challenge.rw_twigscripts_k09_whole_woods_parted_and_p).prog [42]) (H := TwLaw.hk) (ob := TwLaw.ob) (M := 4000) (loose := TwLaw.looseN) (d := HandSHeadRun.topDef (OpenLaw.row PySem.Challenge.rw_twigscripts_k09_whole_woods_parted_and_p).prog 42) (kwd := []) TwLaw.ob_eq
    (by kernel_rfl) (fun s => by kernel_rfl) TwLaw.run (by kernel_rfl) (by kernel_rfl) (by kernel_rfl) (by rfl) (by first | assumption | decide +kernel) (by decide +kernel) ⟨rfl, rfl, rfl, rfl, rfl, by decide +kernel⟩ ?hw ?hc
  case hw => w_witness2
  case hc =>
    refine L2.walk_ofE (l := PySem.Challenge.rw_twigscripts_k09_whole_woods_parted_and_p) (n := 63) (k := 126) (x := "_law_script") (CX := L2.CX0) rfl (by decide) (by kernel_rfl) ⟨rfl, by decide, by decide⟩ ?F (fun _ _ _ _ z => z)
    intro w mg fa h Y G hmg0
    obtain ⟨K, KX, cx⟩ := Y
    have c := cx.t.d
    have hmg : mg ("law" : PySem.Str) = some (.ref fa) := by
      have e : (HandSHeadRun.topDef (OpenLaw.row PySem.Challenge.rw_twigscripts_k09_whole_woods_parted_and_p).prog 42).name = ("law" : PySem.Str) := by kernel_rfl
      rw [← e]
      exact hmg0
    obtain ⟨fd, F⟩ := c.def_ 28 (d := TwLaw.d_law) rfl
    have e := hmg.symm.trans (He.glo_ok KX G (c.fact 28 (f := .glo "law") rfl))
    cases e
    have b := L2.FunD.bindsA (ps := ["_law_script"]) F fun _ _ _ _ _ _ us hl => match us, hl with | [_], _ => rfl
    refine ⟨K, fd, Tw.sp_law K, KX, fun s v => b s [v] rfl, fun H a ns hl _ hS => ⟨a, ns, rfl, hl, hS, fun _ => rfl⟩, fun base hK hG => ?_⟩
    exact TwLaw.facts (P := (PySem.Challenge.rw_twigscripts_k09_whole_woods_parted_and_p).prog) (w := w) hK hG cx base F
