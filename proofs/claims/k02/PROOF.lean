import PyProof.Rows.All
import Wide.All
import OpenK.AllK
import Wide.FinOn
import HandS.ForMost
import HandS.Defaults
import HandS.TupAny
import HandS.FStr
import HandS.StrMore
import HandS.Steps
import HandS.Walk
import HandS.IsInst
import HandS.Style
import HandS.HeadEnd
import HandS.HeadHook1
import HandS.HeadHook2
import HandS.Head2
import HandS.Zip
import KE.GoesMore
import KE.GoesEnum
import HandS.More
import HandS.SetKeys
import HandS.HeadHook3
import HandS.HeadHook4
import HandS.Codes
import PyProof.NsCount
import HandS.Conv
import HandS.ListItems
import PyProof.AutoSeq1
import HandS.Strs
import PyProof.EqKinds
import PyProof.NeKinds
import PyProof.FactsAll.dict_1
import PyProof.FactsAll.list_2
import HandS.ExcOwn
import HandS.ExcInit
import HandS.ExcField
import HandS.ExcIs
import KE.KExcIs
import HandS.Small
import HandS.TryOnly
import HandS.TryMany
import HandS.RaiseMore
import PyProof.ReprRoads
import PySem.Challenge.RW_twigscripts_k02_rows_that_are_none
set_option Elab.async false
set_option linter.all false
set_option maxRecDepth 100000
set_option maxHeartbeats 4000000
/-! Rules of my own over the hand layer: a def of the text as a callee (Cal), readings with names. -/
namespace Tw
open PySem PySem.Spec PyProof.Rows L2
section
variable {P : Program} {w : World} {K : PySem.W.Frag} {mg : Str → Option Value} {base : Heap}
/-- the def st of the text stands under the name x -/
def Df (K : PySem.W.Frag) (mg : Str → Option Value) (x : Str) (st : Stmt) : Prop := ∃ (f : Addr) (fd : FuncData), mg x = some (.ref f) ∧ FunD K x x (defArgs st) (defBody st) (defScope st) [] [] f fd
/-- a def that may be called: it keeps the promise sp -/
def Cal (P : Program) (w : World) (K : PySem.W.Frag) (mg : Str → Option Value) (base : Heap) (CX : CXT) (x : Str) (ps : List Str) (k : Nat) (sp : Sp) : Prop :=
  ∃ (f : Addr) (fd : FuncData), FnOk P w K mg base CX k f fd ps sp ∧ mg x = some (.ref f) ∧ PySem.W.keepIn K (.ref f) = true ∧ Binds K fd ps []
theorem Cal.mono {CX : CXT} {x : Str} {ps : List Str} {j k : Nat} {sp : Sp} (c : Cal P w K mg base CX x ps j sp) (h : j ≤ k) : Cal P w K mg base CX x ps k sp := by
  obtain ⟨f, fd, F, g, kp, b⟩ := c
  exact ⟨f, fd, F.mono h, g, kp, b⟩
theorem Cal.imp {CX : CXT} {x : Str} {ps : List Str} {k : Nat} {sp sp' : Sp} (c : Cal P w K mg base CX x ps k sp) (h : ∀ vs H Q E, sp' vs H Q E → sp vs H Q E) : Cal P w K mg base CX x ps k sp' := by
  obtain ⟨f, fd, F, g, kp, b⟩ := c
  exact ⟨f, fd, F.imp h, g, kp, b⟩
theorem Df.cal {CX : CXT} {x : Str} {st : Stmt} {N ps : List Str} {k : Nat} {sp : Sp} (D : Df K mg x st) (S : FnScope N ps (defScope st))
    (hb : ∀ (kV doc pm : Value) (an : Option Addr) (cdv ct : Value) (us : List Value), us.length = ps.length → bindArgs (PySem.W.fnOf x x (defArgs st) (defBody st) (defScope st) .none kV doc pm an cdv ct) ⟨us, []⟩ = pure (ps.zip us))
    (len : ∀ vs H Q E, sp vs H Q E → vs.length = ps.length)
    (hbody : ∀ (f : Addr) (cdv : Value) (A : Around) (outer : List Env) (s : Shared) (H : Hp) (vs : List V) (Q : VK) (E : XK), Room k (A.deeper (envOfC x (defScope st) s.heap.objs.size f cdv)) → sp vs H Q E →
      ∃ t, PSs (cxOf CX P w K mg base N x (defScope st) f cdv A outer s H E) (defBody st) t ∧ t { nx := fun _ H' => Q .non H', rt := Q } (start N vs) H) : Cal P w K mg base CX x ps (k + 1) sp := by
  obtain ⟨f, fd, g, F⟩ := D
  exact ⟨f, fd, F.ok S len (hbody f), g, F.kp, F.bindsN hb⟩
end
section
variable {X : Cx} {CX : CXT} {k : Nat} {ps : List Str} {sp : Sp} {E : XK} {x : Str} {p pos : Pos} {e : Expr} {es : List Expr} {t : TA}
theorem pe_cal (c : Cal X.prog X.w X.K X.mg X.base CX x ps k sp) (hr : Room k X.A) (hg : Gl X x) (hx : Passes CX X E) (ha : PA X (e :: es) t) (hdb : (x == ("__debug__" : Str)) = false := by decide)
    (he : starEach (e :: es) X.env = (false, eval e X.env) :: starEach es X.env := by rfl) (hpl : (backTo pos (starEach es X.env)).any (·.1) = false := by rfl) : PE X (.Call (.Name x p) (e :: es) [] pos) (tCall sp [] E t) := by
  obtain ⟨f, fd, F, g, kp, b⟩ := c
  exact pe_call F hr hg g kp b .nil hx ha hdb he hpl
end
/-! readings by names -/
abbrev rAddStr : R2 := fun x y H Q => ∃ i j, x = .str i ∧ y = .str j ∧ i.length + j.length ≤ sizeLine ∧ Q (.str (i ++ j)) H
abbrev rLenStr : List V → Hp → VK → Prop := fun xs H Q => ∃ z, xs = [.str z] ∧ z.length ≤ sizeLine ∧ Q (.int z.length) H
abbrev rLenSeq (K : PySem.W.Frag) : List V → Hp → VK → Prop := fun xs H Q => ∃ p ys, xs = [.ref p] ∧ (SqL K H p ys ∨ SqT K H p ys) ∧ Q (.int ys.length) H
abbrev rLenD : List V → Hp → VK → Prop := fun xs H Q => ∃ a kvs, xs = [V.ref a] ∧ H a = some (.dK kvs) ∧ Q (.int kvs.length) H
abbrev rAbs : List V → Hp → VK → Prop := fun xs H Q => ∃ i, xs = [.int i] ∧ Q (.int (if i < 0 then -i else i)) H
abbrev rInt1 : List V → Hp → VK → Prop := fun xs H Q => (∃ i, xs = [.int i] ∧ Q (.int i) H) ∨ ∃ k, xs = [.bl k] ∧ Q (.int (if k then 1 else 0)) H
abbrev rListOf (K : PySem.W.Frag) : List V → Hp → VK → Prop := fun xs H Q => ∃ p ys, xs = [.ref p] ∧ (SqL K H p ys ∨ SqT K H p ys) ∧ ∀ l, H l = none → Q (.ref l) (upd H l (.lst ys))
abbrev rTupleOf (K : PySem.W.Frag) : List V → Hp → VK → Prop := fun xs H Q => ∃ p ys, xs = [.ref p] ∧ ((SqL K H p ys ∧ ∀ l, H l = none → Q (.ref l) (upd H l (.tup ys))) ∨ (SqT K H p ys ∧ Q (.ref p) H))
abbrev rMax2 : List V → Hp → VK → Prop := fun xs H Q => ∃ i j, xs = [.int i, .int j] ∧ Q (.int (if j > i then j else i)) H
abbrev rMin2 : List V → Hp → VK → Prop := fun xs H Q => ∃ i j, xs = [.int i, .int j] ∧ Q (.int (if j < i then j else i)) H
abbrev rInsert : V → List V → Hp → VK → Prop := fun x vs H Q => ∃ (l : Addr) (xs : List V) (i : Int) (y : V), x = .ref l ∧ vs = [.int i, y] ∧ H l = some (.lst xs) ∧ xs.length < sizeLine ∧ 0 ≤ i ∧ i < 2 ^ 63 ∧ Q .non (upd H l (.lst (xs.take i.toNat ++ [y] ++ xs.drop i.toNat)))
abbrev rJoin (K : PySem.W.Frag) : V → List V → Hp → VK → Prop := fun x xs H Q => ∃ a p, ∃ ys : List Str, x = .str a ∧ xs = [.ref p] ∧ (SqL K H p (ys.map V.str) ∨ SqT K H p (ys.map V.str)) ∧ (ys.map (·.length)).sum + ys.length * a.length ≤ 16777216 ∧ Q (.str (Txt.join a ys)) H
abbrev rTxtB (f : Str → Bool) : V → List V → Hp → VK → Prop := fun x xs H Q => ∃ a, x = .str a ∧ xs = [] ∧ True ∧ Q (.bl (f a)) H
abbrev tJoined (ts : List TE) : TE := fun σ H Q => tJs ts Str.empty σ H fun out H1 => Q (.str out) H1
end Tw
set_option Elab.async false
set_option linter.all false
set_option maxRecDepth 100000
set_option maxHeartbeats 4000000
/-! zip of a text and of a tuple, walked by a for -/
namespace Tw
open PySem PySem.Spec PyProof.Rows L2
def ItzS (K : PySem.W.Frag) (x : Str) (b : Addr) : It :=
  ⟨fun i H => ∃ (ys : List V) (y : V), i < x.cps.size ∧ SqT K H b ys ∧ ys[i]? = some y,
    fun i H v H' => ∃ T c y, v = .ref T ∧ H T = none ∧ H' = upd H T (.tup [.str ⟨#[c]⟩, y]) ∧ x.cps[i]? = some c ∧ ∀ ys, SqT K H b ys → ys[i]? = some y,
    fun i H => ∃ ys : List V, SqT K H b ys ∧ i ≤ x.cps.size ∧ i ≤ ys.length ∧ (i = x.cps.size ∨ i = ys.length)⟩
theorem turn_zipS {P : Program} {w : World} {K : PySem.W.Frag} {elts : List Expr} {kk : Nat} {tpos : Pos} {b z TI TO i1 i2 : Addr} {x : Str} {t : Tok} (D : ZipSep2 z TI TO i1 i2 [i1] [i2, b]) (hb : b ≠ i2) :
    Turn P w K (.Tuple elts kk tpos) (ItzS K x b) [z, TI, TO, i1, i2] z (fun i h => IsZip h z TI TO .none ∧ IsTupOf2 h TI (.ref i1) (.ref i2) ∧ (∃ x y, IsTupOf2 h TO x y) ∧ h.IsStrIter i1 (strIterType x) x t i ∧ h.IsTupleIter i2 b i) where
  mem := by simp
  obj := fun i h st c hc => by
    obtain ⟨hz, hTI, ⟨x, y, hTO⟩, ⟨o1, e1, _, d1⟩, ⟨o2, e2, _, d2⟩⟩ := st
    have e' : c = z ∨ c = TI ∨ c = TO ∨ c = i1 ∨ c = i2 := by simpa using hc
    rcases e' with q | q | q | q | q
    · rw [q]; exact ⟨_, hz, fun v q => nomatch q⟩
    · rw [q]; exact ⟨_, hTI, fun v q => nomatch q⟩
    · rw [q]; exact ⟨_, hTO, fun v q => nomatch q⟩
    · rw [q]; exact ⟨o1, e1, fun v q => by rw [d1] at q; cases q⟩
    · rw [q]; exact ⟨o2, e2, fun v q => by rw [d2] at q; cases q⟩
  keep := fun i h h' st k => by
    obtain ⟨hz, hTI, ⟨x, y, hTO⟩, ⟨o1, e1, r1⟩, h2⟩ := st
    exact ⟨k z (by simp) _ hz, k TI (by simp) _ hTI, ⟨x, y, k TO (by simp) _ hTO⟩, ⟨o1, k i1 (by simp) _ e1, r1⟩, h2.at fun o q => k i2 (by simp) o q⟩
  item := by
    intro X hP hw hK hc i pins s σ H E I hf st hg
    subst hP hw hK
    obtain ⟨hz, hTI, ⟨x0, y0, hTO⟩, h1, h2⟩ := st
    obtain ⟨ys, y, hix, hqy, hy⟩ := hg
    obtain ⟨its2, rv2, p2, _⟩ := I.tuple hqy
    obtain ⟨u2, hu2, ru2⟩ := rv2.get hy
    have hzl : z < s.heap.objs.size := Heap.lt_size hz
    have hh : X.A.in1.handled = none := I.ok.hd hc
    have hi2 : i < its2.toArray.size := by
      have : i < its2.length := (List.getElem?_eq_some_iff.mp hu2).1
      simpa using this
    refine wpAny_pyNext_zipD2_item D (Draws.text hh i1 x t) (Draws.tuple hh i2 b hb its2.toArray) hz hTI hTO h1 ⟨h2, p2⟩ hix hi2 fun v1 v2 h' tk ⟨c, u, hcx, ev⟩ hv2 z' TO' h1' h2' hT hsz hk => ?_
    subst ev
    have e2 : v2 = u2 := by
      have : its2[i]? = some v2 := by simpa using hv2
      rw [hu2] at this
      exact (Option.some.inj this).symm
    subst e2
    refine ⟨_, rfl, wpAny_letOwnedTupleGo_zip (s := { s with heap := h', toks := tk }) z' fun h'' z'' sb => ?_⟩
    have hT2 : h''.get? s.heap.objs.size = some { cls := .type "tuple", data := .seq #[.str ⟨#[c]⟩ u, v2] } := (sb.2 _ (Nat.ne_of_gt hzl)).trans hT
    have new : ObjOk X.prog X.w (upd H s.heap.objs.size (.tup [.str ⟨#[c]⟩, y])) h'' s.heap.objs.size (.tup [.str ⟨#[c]⟩, y]) :=
      ⟨by show 2 ≤ sizeLine; decide, [.str ⟨#[c]⟩ u, v2], .cons ⟨u, rfl⟩ (.cons ru2 .nil), ⟨_, hT2, rfl, _, rfl⟩⟩
    have I1 : Inv X pins σ (upd H s.heap.objs.size (.tup [.str ⟨#[c]⟩, y])) { s with heap := h'', toks := tk } :=
      I.turnedNew (t' := tk) (ch := [z, TI, TO, i1, i2]) (fun c o hb q => (sb.2 c (fun q' => hb (by simp [q']))).trans (hk c o (fun q' => hb (by simp [q'])) (fun q' => hb (by simp [q'])) (fun q' => hb (by simp [q'])) (fun q' => hb (by simp [q'])) q)) hf (Nat.le_refl _) new
    refine ⟨.ref s.heap.objs.size, _, I1, rfl, ⟨_, c, y, rfl, I.hok.fresh (Nat.le_refl _), rfl, hcx, fun l hl => by rw [I.tuple_inj hl hqy]; exact hy⟩, ⟨z'', ?_, ⟨.str ⟨#[c]⟩ u, v2, ?_⟩, ?_, ?_⟩, fun c hcm => ?_⟩
    · exact (sb.2 _ D.TIz).trans (hk _ _ D.TIz D.TITO D.TIi1 D.TIi2 hTI)
    · exact (sb.2 _ D.TOz).trans TO'
    · obtain ⟨o1, e1, r1⟩ := h1'
      exact ⟨o1, (sb.2 _ (fun q => D.zi1 q.symm)).trans e1, r1⟩
    · exact h2'.1.at fun o q => (sb.2 _ (fun q => D.zi2 q.symm)).trans q
    · have hlt : c < s.heap.objs.size := by
        have e' : c = z ∨ c = TI ∨ c = TO ∨ c = i1 ∨ c = i2 := by simpa using hcm
        rcases e' with q | q | q | q | q
        · rw [q]; exact hzl
        · rw [q]; exact Heap.lt_size hTI
        · rw [q]; exact Heap.lt_size hTO
        · rw [q]; obtain ⟨_, e1, _⟩ := h1; exact Heap.lt_size e1
        · rw [q]; obtain ⟨_, e2, _⟩ := h2; exact Heap.lt_size e2
      rw [upd_ne (Nat.ne_of_lt hlt)]
      exact (hf c hcm).1
  done := by
    intro X hP hw hK hc i pins s σ H E I hf st hg
    subst hP hw hK
    obtain ⟨hz, hTI, ⟨x0, y0, hTO⟩, h1, h2⟩ := st
    obtain ⟨ys, hqy, hl1, hl2, hend⟩ := hg
    obtain ⟨its2, rv2, p2, _⟩ := I.tuple hqy
    have l2 := rv2.length
    have hh : X.A.in1.handled = none := I.ok.hd hc
    have l3 : its2.toArray.size = ys.length := by simp [l2]
    exact wpAny_pyNext_zipD2_end D (Draws.text hh i1 x t) (Draws.tuple hh i2 b hb its2.toArray) hz hTI hTO h1 ⟨h2, p2⟩ hl1 (by rw [l3]; exact hl2) (by rw [l3]; exact hend) fun h' tk hk => ⟨rfl, I.turnedL (t' := tk) (ch := [z, TI, TO, i1, i2]) (fun c o hb q =>
      hk c o (fun q' => hb (by simp [q'])) (fun q' => hb (by simp [q'])) (fun q' => hb (by simp [q'])) (fun q' => hb (by simp [q'])) q) hf⟩
  self := fun A i s Q E st h => wpAny_pyIter_zip st.1 h
abbrev iZipS (K : PySem.W.Frag) (ta : TA) : TI := fun σ H R => ta σ H fun vs H1 => ∃ x b ys, vs = [.str x, .ref b] ∧ SqT K H1 b ys ∧ R (ItzS K x b) H1
theorem pi_zipS {X : Cx} {e e2 : Expr} {ta : TA} {p pos tpos : Pos} {elts : List Expr} {kk : Nat} (hg : Gl X "zip") (hm : X.mg "zip" = none) (ha : PA X [e, e2] ta)
    (hs : starEach [e, e2] X.env = (false, eval e X.env) :: starEach [e2] X.env := by rfl) (hpl : (backTo pos (starEach [e2] X.env)).any (·.1) = false := by rfl) :
    PI X (.Tuple elts kk tpos) (.Call (.Name "zip" p) [e, e2] [] pos) (iZipS X.K ta) := by
  refine ⟨fun pins s σ H R I h => ?_⟩
  refine Call_ (ld_blt I hg hm PyProof.Rows.boot_zip (PyProof.Rows.callWith_type1 (thn (ha.run pos pins s σ H _ I h) fun us s1 ⟨vs, H1, I1, r1, q1⟩ => ?_) hs hpl))
  obtain ⟨x, b, ys, ex, hqy, q⟩ := q1
  subst ex
  cases r1 with
  | cons r rr =>
    cases rr with
    | cons r' rr =>
      cases rr
      obtain ⟨t, rfl⟩ := r
      cases r'
      have fresh5 : ∀ c, c ∈ [s1.heap.objs.size + 4, s1.heap.objs.size + 2, s1.heap.objs.size + 3, s1.heap.objs.size, s1.heap.objs.size + 1] → FpOk X pins H1 c := fun c hcm => by
        have e' : c = s1.heap.objs.size + 4 ∨ c = s1.heap.objs.size + 2 ∨ c = s1.heap.objs.size + 3 ∨ c = s1.heap.objs.size ∨ c = s1.heap.objs.size + 1 := by simpa using hcm
        have hle : s1.heap.objs.size ≤ c := by
          rcases e' with z | z | z | z | z
          · rw [z]; exact Nat.le_add_right _ _
          · rw [z]; exact Nat.le_add_right _ _
          · rw [z]; exact Nat.le_add_right _ _
          · rw [z]; exact Nat.le_refl _
          · rw [z]; exact Nat.le_add_right _ _
        exact I1.fpOk hle (I1.hok.fresh hle)
      obtain ⟨its2, rv2, p2, _⟩ := I1.tuple hqy
      obtain ⟨o2, ho2, _⟩ := id p2
      have hlt : b < s1.heap.objs.size := Heap.lt_size ho2
      refine zip_begins2 (begins_text x t) (begins_tuple b its2.toArray) trivial p2 fun h' hz hTI hTO h1 h2 hsz hk => wpAny_pyIter_zip hz ?_
      have I2 : Inv X pins σ H1 { s1 with heap := h' } := I1.kept (t' := s1.toks) hk
      refine ⟨s1.heap.objs.size + 4, [s1.heap.objs.size + 4, s1.heap.objs.size + 2, s1.heap.objs.size + 3, s1.heap.objs.size, s1.heap.objs.size + 1], _, _, H1, rfl, I2, turn_zipS (x := x) (t := t) (zip_sep2 (fp1 := []) (fp2 := [b]) (by simp) (by simpa using hlt)) (Nat.ne_of_lt (Nat.lt_succ_of_lt hlt)), ⟨hz, hTI, ⟨_, _, hTO⟩, ⟨_, h1, rfl, rfl⟩, ⟨_, h2, rfl, rfl⟩⟩, fresh5, q⟩
end Tw
set_option Elab.async false
set_option linter.all false
set_option maxRecDepth 100000
set_option maxHeartbeats 4000000
/-! the program's table of words: a dict of the written part with texts -/
namespace Tw
open PySem PySem.Spec PyProof.Rows L2
/-- the table at F: its keys and texts -/
structure FormsAt (K : PySem.W.Frag) (w : World) (F : Addr) (l : List (Str × Str)) : Prop where
  dict : ∃ es n, KDict K w F es n
  at_ : ∀ q ∈ l, ∃ u, PySem.W.nsIn K F q.1 = some (some u) ∧ RelV (.str q.2) u
  no : ∀ z, z ∉ l.map (·.1) → PySem.W.nsIn K F z = some none
theorem FormsAt.dct {K : PySem.W.Frag} {w : World} {F : Addr} {l : List (Str × Str)} (h : FormsAt K w F l) {q : Str × Str} (hq : q ∈ l) : KDct K w F q.1 (.str q.2) := by
  obtain ⟨es, n, D⟩ := h.dict
  obtain ⟨u, e, r⟩ := h.at_ q hq
  exact ⟨es, n, u, D.at_, D.lit, e, r⟩
theorem keyOf_str {e : DictEntry} {x : Str} {i : Int} (h : He.keyOf e = some (x, i)) : ∃ t, e.key = .str x t := by
  unfold He.keyOf at h
  split at h
  · rename_i y t q
    injection h with h3
    injection h3 with h4 _
    exact ⟨t, by rw [← h4]; exact q⟩
  · cases h
theorem keys_none {P : Params} {z : Str} : ∀ {l : List DictEntry} {ks : List Str}, l.map He.keyOf = He.keysIn P ks → z ∉ ks → l.find? (fun e => e.key.isStr z) = none ∧ l.any (·.refKey) = false
  | [], _, _, _ => ⟨rfl, rfl⟩
  | e :: r, [], h, _ => by cases h
  | e :: r, k :: ks, h, hz => by
    have h1 : He.keyOf e :: r.map He.keyOf = some (k, PyData.keyHash P k) :: He.keysIn P ks := h
    injection h1 with h2 h3
    obtain ⟨t, ek⟩ := keyOf_str h2
    obtain ⟨i1, i2⟩ := keys_none (z := z) h3 (fun q => hz (List.mem_cons_of_mem _ q))
    have hk : ¬ k = z := fun q => hz (by rw [q]; exact List.mem_cons_self ..)
    have e1 : e.key.isStr z = false := by
      rw [ek]
      have : ¬ (Value.str k t).isStr z = true := fun q => by
        have q2 : (k == z) = true := q
        exact hk (eq_of_beq q2)
      simpa using this
    have e2 : e.refKey = false := by unfold DictEntry.refKey; rw [ek]
    exact ⟨by rw [List.find?_cons, e1]; exact i1, by rw [List.any_cons, e2, i2]; rfl⟩
theorem dicW_none {K : PySem.W.Frag} {P : Params} {a : Addr} {ks : List Str} {z : Str} (h : He.dicW K a = some (He.keysIn P ks)) (hz : z ∉ ks) : PySem.W.nsIn K a z = some none := by
  unfold He.dicW at h
  unfold PySem.W.nsIn
  cases q : K.lookup a with
  | none => rw [q] at h; cases h
  | some o =>
    obtain ⟨oc, od, dt, osl⟩ := o
    rw [q] at h
    cases oc with
    | type c =>
      cases od with
      | none =>
        cases dt with
        | dict es n =>
          have h1 : (match decide (c = "dict") && (osl.isEmpty && !(a == sysModules)) with
            | true => some (es.toList.map He.keyOf)
            | false => none) = some (He.keysIn P ks) := h
          cases hc : decide (c = "dict") && (osl.isEmpty && !(a == sysModules)) with
          | false => rw [hc] at h1; cases h1
          | true =>
            rw [hc] at h1
            obtain ⟨i1, i2⟩ := keys_none (z := z) (Option.some.inj h1) hz
            show (match es.toList.find? (fun e => e.key.isStr z) with
              | some e => some (some e.val)
              | none => if es.toList.any (·.refKey) then none else some none) = some none
            rw [i1, i2]
            rfl
        | _ => cases h
      | some b => cases dt <;> cases h
    | _ => cases od <;> cases dt <;> cases h
/-- the tables of a head: where, their texts -/
abbrev Tb : Type := (PySem.W.Frag → Addr) × List (Str × Str)
def tabs (l : List (Str × List (Str × Str))) : List He.Tab := l.map fun q => ((fun K => He.ga K q.1), q.2.map (·.1))
def tabsV (l : List (Str × List (Str × Str))) (K : PySem.W.Frag) : Bool := l.all fun q => He.valsB K (He.ga K q.1) (q.2.map fun p => (p.1, .str p.2))
theorem formsAt_of {fa : List He.Fa} {fn : List He.DefD} {l : List (Str × List (Str × Str))} {tf : List He.Defn} {w : World} {h : Heap} {K : PySem.W.Frag} (c : He.SaysX fa fn (tabs l) tf (tabsV l) w h K) (i : Nat) {x : Str} {t : List (Str × Str)} (e : l[i]? = some (x, t)) :
    FormsAt K w (He.ga K x) t := by
  have et : (tabs l)[i]? = some ((fun K => He.ga K x), t.map (·.1)) := by
    unfold tabs; rw [List.getElem?_map, e]; rfl
  have hm := List.all_eq_true.mp c.more (x, t) (List.mem_of_getElem? e)
  refine ⟨c.t.tab i et, fun q hq => ?_, fun z hz => ?_⟩
  · obtain ⟨u, e1, r⟩ := He.valsB_ok hm (q := (q.1, .str q.2)) (List.mem_map_of_mem (f := fun p : Str × Str => ((p.1, He.Dv.str p.2) : Str × He.Dv)) hq)
    exact ⟨u, e1, r⟩
  · have e2 : (tabs l).map (fun t => He.dicW K (t.1 K)) = (tabs l).map fun t => some (He.keysIn w.params t.2) := congrArg (fun z : He.AlT => z.2) c.t
    have e3 : ((tabs l).map (fun t => He.dicW K (t.1 K)))[i]? = ((tabs l).map fun t => some (He.keysIn w.params t.2))[i]? := by rw [e2]
    rw [List.getElem?_map, List.getElem?_map, et] at e3
    exact dicW_none (Option.some.inj e3) hz
/-- what each item behind a word stands for -/
def formsL : List (Str × Str) := [("first", "oo"), ("last", "oo"), ("ahead", "oo"), ("behind", "oo"), ("front", "o"), ("back", "o"), ("swap", "oo"), ("turn", "oo"), ("lift", "o"), ("cut", "o"), ("pour", "oo"), ("wrap", "on"), ("put", "no")]
end Tw
set_option Elab.async false
set_option linter.all false
set_option maxRecDepth 100000
set_option maxHeartbeats 4000000
/-! x in TABLE, x not in TABLE -/
namespace Tw
open PySem PySem.Spec PyProof.Rows L2
abbrev rInF (b : Bool) (F : Addr) (l : List (Str × Str)) : R2 := fun x y H Q => ∃ z : Str, x = .str z ∧ y = .ref F ∧ Q (.bl (b != decide (z ∈ l.map (·.1)))) H
section
variable {X : Cx} {F : Addr} {l : List (Str × Str)}
theorem FormsAt.has {K : PySem.W.Frag} {w : World} (h : FormsAt K w F l) (z : Str) : ∃ r, PySem.W.nsIn K F z = some r ∧ r.isSome = decide (z ∈ l.map (·.1)) := by
  by_cases hz : z ∈ l.map (·.1)
  · obtain ⟨q, hq, e⟩ := List.mem_map.mp hz
    obtain ⟨u, e1, _⟩ := h.at_ q hq
    refine ⟨some u, by rw [← e]; exact e1, by simp only [Option.isSome_some]; exact (decide_eq_true hz).symm⟩
  · exact ⟨none, h.no z hz, by simp only [Option.isSome_none]; exact (decide_eq_false hz).symm⟩
theorem op_in_F (h : FormsAt X.K X.w F l) : OpR X (compareOp .In) (rInF false F l) := by
  intro pins s σ H x y v u Q I rx ry ⟨z, ex, ey, q⟩
  obtain ⟨es, n, D⟩ := h.dict
  obtain ⟨r, e1, e2⟩ := h.has z
  refine op_in_kd D pins s σ H x y v u Q I rx ry ⟨z, r, ex, ey, e1, ?_⟩
  rw [e2]; simpa using q
theorem op_notIn_F (h : FormsAt X.K X.w F l) : OpR X (compareOp .NotIn) (rInF true F l) := by
  intro pins s σ H x y v u Q I rx ry ⟨z, ex, ey, q⟩
  obtain ⟨es, n, D⟩ := h.dict
  obtain ⟨r, e1, e2⟩ := h.has z
  refine op_notIn_kd D pins s σ H x y v u Q I rx ry ⟨z, r, ex, ey, e1, ?_⟩
  rw [e2]; simpa using q
end
end Tw
set_option Elab.async false
set_option linter.all false
set_option maxRecDepth 100000
set_option maxHeartbeats 4000000
namespace Tw
open PySem PySem.Spec PyProof.Rows L2
/-! ### readings, opened -/
section
variable {K : PySem.W.Frag} {σ : L2.St} {H : Hp} {Q : VK} {ta tb te tl th : TE} {r : R2} {D : Ends} {t u : TS}
theorem o_op : tOp r ta tb σ H Q = ta σ H fun x H1 => tb σ H1 fun y H2 => r x y H2 Q := rfl
theorem o_un {r : V → Hp → VK → Prop} : tUn r ta σ H Q = ta σ H fun x H1 => r x H1 Q := rfl
theorem o_var {i : Nat} : tVar i σ H Q = ∃ v, σ[i]? = some (some v) ∧ Q v H := rfl
theorem o_c {v : V} : tC v σ H Q = Q v H := rfl
theorem o_cb {r : List V → Hp → VK → Prop} {t : TA} : tCB r t σ H Q = t σ H fun vs H1 => r vs H1 Q := rfl
theorem o_call {sp : Sp} {dvs : List V} {E : XK} {t : TA} : tCall sp dvs E t σ H Q = t σ H fun vs H1 => sp (vs ++ dvs) H1 Q E := rfl
theorem o_cons {tr : TA} {Q : List V → Hp → Prop} : tCons ta tr σ H Q = ta σ H fun x H1 => tr σ H1 fun xs H2 => Q (x :: xs) H2 := rfl
theorem o_nil {Q : List V → Hp → Prop} : tNil σ H Q = Q [] H := rfl
theorem o_tup {t : TA} : tTup t σ H Q = t σ H fun xs H1 => xs.length ≤ sizeLine ∧ ∀ p, H1 p = none → Q (.ref p) (upd H1 p (.tup xs)) := rfl
theorem o_lst {t : TA} : tLst t σ H Q = t σ H fun xs H1 => xs.length ≤ sizeLine ∧ ∀ p, H1 p = none → Q (.ref p) (upd H1 p (.lst xs)) := rfl
theorem o_I0 {g : Int → Int → V} {i j : Int} : rI0 g (.int i) (.int j) H Q = Q (g i j) H := by
  apply propext; constructor
  · rintro ⟨a, b, e1, e2, q⟩; cases e1; cases e2; exact q
  · intro q; exact ⟨i, j, rfl, rfl, q⟩
theorem o_I {C : Int → Int → Prop} {g : Int → Int → V} {i j : Int} : rI C g (.int i) (.int j) H Q = (C i j ∧ Q (g i j) H) := by
  apply propext; constructor
  · rintro ⟨a, b, e1, e2, q⟩; cases e1; cases e2; exact q
  · intro q; exact ⟨i, j, rfl, rfl, q⟩
theorem o_int1 {i : Int} : rInt1 [.int i] H Q = Q (.int i) H := by
  apply propext; constructor
  · rintro (⟨a, e, q⟩ | ⟨a, e, q⟩)
    · cases e; exact q
    · cases e
  · intro q; exact .inl ⟨i, rfl, q⟩
theorem o_intb {k : Bool} : rInt1 [.bl k] H Q = Q (.int (if k then 1 else 0)) H := by
  apply propext; constructor
  · rintro (⟨a, e, q⟩ | ⟨a, e, q⟩)
    · cases e
    · cases e; exact q
  · intro q; exact .inr ⟨k, rfl, q⟩
theorem o_abs {i : Int} : rAbs [.int i] H Q = Q (.int (if i < 0 then -i else i)) H := by
  apply propext; constructor
  · rintro ⟨a, e, q⟩; cases e; exact q
  · intro q; exact ⟨i, rfl, q⟩
theorem o_test {Q : Bool → Hp → Prop} : tTest te σ H Q = te σ H fun x H' => ∃ k, x = .bl k ∧ Q k H' := rfl
theorem o_b {Q : Bool → Hp → Prop} : tB te σ H Q = te σ H fun x H' => ∃ k, x = .bl k ∧ Q k H' := rfl
theorem o_not {t : TT} {Q : Bool → Hp → Prop} : tNot t σ H Q = t σ H fun c H1 => Q (!c) H1 := rfl
theorem o_and {t u : TT} {Q : Bool → Hp → Prop} : tAnd t u σ H Q = t σ H fun c H1 => if c = true then u σ H1 Q else Q false H1 := rfl
theorem o_or {t u : TT} {Q : Bool → Hp → Prop} : tOr t u σ H Q = t σ H fun c H1 => if c = true then Q true H1 else u σ H1 Q := rfl
theorem o_andV : tAndV ta tb σ H Q = ta σ H fun x H1 => ∃ c, x = .bl c ∧ if c = true then tb σ H1 Q else Q (.bl false) H1 := rfl
theorem o_orV : tOrV ta tb σ H Q = ta σ H fun x H1 => ∃ c, x = .bl c ∧ if c = true then Q (.bl true) H1 else tb σ H1 Q := rfl
theorem o_notV : tNotV ta σ H Q = ta σ H fun x H1 => ∃ c, x = .bl c ∧ Q (.bl (!c)) H1 := rfl
theorem o_ifE {t : TT} : tIf t ta tb σ H Q = t σ H fun c H1 => if c = true then ta σ H1 Q else tb σ H1 Q := rfl
theorem o_isN : tIsN ta σ H Q = ta σ H fun x H1 => Q (.bl (decide (x = .non))) H1 := rfl
theorem o_notN : tNotN ta σ H Q = ta σ H fun x H1 => Q (.bl (!decide (x = .non))) H1 := rfl
theorem o_eq {x y : V} : rEq x y H Q = (scal x y = true ∧ Q (.bl (decide (x = y))) H) := rfl
theorem o_ne {x y : V} : rNe x y H Q = (scal x y = true ∧ Q (.bl (!decide (x = y))) H) := rfl
theorem o_seq : tSeq t u D σ H = t { D with nx := u D } σ H := rfl
theorem o_next : tNext D σ H = D.nx σ H := rfl
theorem o_asg {g : TG} : tAsg te g D σ H = te σ H fun x H1 => g x σ H1 D.nx := rfl
theorem o_name {i : Nat} {v : V} {Q : L2.St → Hp → Prop} : gName i v σ H Q = Q (σ.set i (some v)) H := rfl
theorem o_sub {to ti : TE} {t : TSet} {v : V} {Q : L2.St → Hp → Prop} : gSub to ti t v σ H Q = to σ H fun o H1 => ti σ H1 fun i H2 => t o i v H2 fun H3 => Q σ H3 := rfl
theorem o_par {i j : Nat} {ta : TA} : tPar i j ta D σ H = ta σ H fun vs H1 => ∃ v w, vs = [v, w] ∧ D.nx ((σ.set i (some v)).set j (some w)) H1 := rfl
theorem o_drop : tDrop te D σ H = te σ H fun _ H1 => D.nx σ H1 := rfl
theorem o_ret : tRet te D σ H = te σ H D.rt := rfl
theorem o_retN : tRetN D σ H = D.rt .non H := rfl
theorem o_ifS {c : TT} : tIfS c t u D σ H = c σ H fun b H1 => if b = true then t D σ H1 else u D σ H1 := rfl
theorem o_sl {r : V → Option Int → Option Int → Hp → VK → Prop} {tl th : TO} : L2.tSl r te tl th σ H Q = te σ H fun x H1 => tl σ H1 fun l H2 => th σ H2 fun u H3 => r x l u H3 Q := rfl
theorem o_noPart {Q : Option Int → Hp → Prop} : tNoPart σ H Q = Q none H := rfl
theorem o_part {Q : Option Int → Hp → Prop} : tPart te σ H Q = te σ H fun x H1 => ∃ i, x = .int i ∧ Q (some i) H1 := rfl
theorem o_bm {T : String} {r : V → List V → Hp → VK → Prop} {to : TE} {t : TA} : tBM K T r to t σ H Q = to σ H fun x H1 => tyV K T x H1 ∧ t σ H1 fun xs H2 => r x xs H2 Q := rfl
theorem o_bm0 {T : String} {r : V → List V → Hp → VK → Prop} {to : TE} : tBM0 K T r to σ H Q = to σ H fun x H1 => tyV K T x H1 ∧ r x [] H1 Q := rfl
theorem o_m0 {r : V → List V → Hp → VK → Prop} {to : TE} : tM0 r to σ H Q = to σ H fun x H1 => (∃ a, x = .str a) ∧ r x [] H1 Q := rfl
theorem o_m1 {r : V → List V → Hp → VK → Prop} {to : TE} : tM1 r to te σ H Q = to σ H fun x H1 => (∃ a, x = .str a) ∧ te σ H1 fun y H2 => r x [y] H2 Q := rfl
theorem e_bl {k : Bool} {P : Bool → Prop} : (∃ c, V.bl k = V.bl c ∧ P c) = P k := by
  apply propext; constructor
  · rintro ⟨c, e, q⟩; cases e; exact q
  · intro q; exact ⟨k, rfl, q⟩
theorem e_int {k : Int} {P : Int → Prop} : (∃ c, V.int k = V.int c ∧ P c) = P k := by
  apply propext; constructor
  · rintro ⟨c, e, q⟩; cases e; exact q
  · intro q; exact ⟨k, rfl, q⟩
theorem e_str {k : Str} {P : Str → Prop} : (∃ c, V.str k = V.str c ∧ P c) = P k := by
  apply propext; constructor
  · rintro ⟨c, e, q⟩; cases e; exact q
  · intro q; exact ⟨k, rfl, q⟩
theorem e_some {k : V} {P : V → Prop} : (∃ v, some (some k) = some (some v) ∧ P v) = P k := by
  apply propext; constructor
  · rintro ⟨c, e, q⟩; cases e; exact q
  · intro q; exact ⟨k, rfl, q⟩
theorem e_two {a b : V} {P : V → V → Prop} : (∃ v w, [a, b] = [v, w] ∧ P v w) = P a b := by
  apply propext; constructor
  · rintro ⟨c, d, e, q⟩; cases e; exact q
  · intro q; exact ⟨a, b, rfl, q⟩
end

/-! ### loops, opened -/
/-- a for over what J walks, from here -/
def ForB (J : It) (g : TG) (tb : TS) (D : Ends) (σ : L2.St) (H : Hp) : Prop := tFor (fun _ _ R => R J H) g tb D σ H
/-- a comprehension over what J walks, from here -/
def LcB (J : It) (g : TG) (tt : TT) (te : TE) (vs : List Nat) (σ : L2.St) (H : Hp) (Q : VK) : Prop := tLc (fun _ _ R => R J H) g tt te vs σ H Q
section
variable {K : PySem.W.Frag} {σ : L2.St} {H : Hp} {Q : VK} {ta tb te tl th : TE} {r : R2} {D : Ends} {t u : TS} {g : TG} {wi : TI} {J : It} {tt : TT} {vs : List Nat}
theorem o_for : tFor wi g t D σ H = wi σ H fun J H1 => ForB J g t D σ H1 := rfl
theorem o_lc : tLc wi g tt te vs σ H Q = wi σ H fun J H1 => LcB J g tt te vs σ H1 Q := rfl
theorem o_iList {R : It → Hp → Prop} : iList K tl σ H R = tl σ H fun x H1 => ∃ a, x = .ref a ∧ (∃ xs, SqL K H1 a xs) ∧ R (Itl K a) H1 := rfl
theorem o_iTup {R : It → Hp → Prop} : iTup K tl σ H R = tl σ H fun x H1 => ∃ a, x = .ref a ∧ (∃ xs, SqT K H1 a xs) ∧ R (Itt K a) H1 := rfl
theorem o_iRng1 {ta : TA} {R : It → Hp → Prop} : iRng1 ta σ H R = ta σ H fun vs H1 => ∃ j : Int, vs = [.int j] ∧ -(2 ^ 62) ≤ j ∧ j < 2 ^ 62 ∧ R (Itr 0 j.toNat) H1 := rfl
theorem e_int1 {k : Int} {P : Int → Prop} : (∃ j : Int, [V.int k] = [V.int j] ∧ P j) = P k := by
  apply propext; constructor
  · rintro ⟨c, e, q⟩; cases e; exact q
  · intro q; exact ⟨k, rfl, q⟩
theorem e_ref {k : Addr} {P : Addr → Prop} : (∃ c, V.ref k = V.ref c ∧ P c) = P k := by
  apply propext; constructor
  · rintro ⟨c, e, q⟩; cases e; exact q
  · intro q; exact ⟨k, rfl, q⟩
theorem fb_list {a : Addr} {xs : List V} (Pv : Nat → L2.St → Hp → Prop) (h0 : Pv 0 σ H) (hl : ∀ i σ H, i ≤ xs.length → Pv i σ H → SqL K H a xs)
    (hs : ∀ i x σ H, xs[i]? = some x → Pv i σ H → g x σ H fun σ2 H2 => t { D with nx := Pv (i + 1), ct := Pv (i + 1), bk := D.nx } σ2 H2) (hd : ∀ σ H, Pv xs.length σ H → D.nx σ H) : ForB (Itl K a) g t D σ H :=
  for_list Pv h0 hl hs hd
theorem fb_tup {a : Addr} {xs : List V} (Pv : Nat → L2.St → Hp → Prop) (h0 : Pv 0 σ H) (hl : ∀ i σ H, i ≤ xs.length → Pv i σ H → SqT K H a xs)
    (hs : ∀ i x σ H, xs[i]? = some x → Pv i σ H → g x σ H fun σ2 H2 => t { D with nx := Pv (i + 1), ct := Pv (i + 1), bk := D.nx } σ2 H2) (hd : ∀ σ H, Pv xs.length σ H → D.nx σ H) : ForB (Itt K a) g t D σ H :=
  for_tup Pv h0 hl hs hd
theorem fb_range {lo : Int} {n : Nat} (Pv : Nat → L2.St → Hp → Prop) (h0 : Pv 0 σ H)
    (hs : ∀ i σ H, i < n → Pv i σ H → g (.int (lo + i)) σ H fun σ2 H2 => t { D with nx := Pv (i + 1), ct := Pv (i + 1), bk := D.nx } σ2 H2) (hd : ∀ σ H, Pv n σ H → D.nx σ H) : ForB (Itr lo n) g t D σ H :=
  for_range Pv h0 hs hd
theorem lb_walk {n : Nat} {G : Hp → Prop} {Y : Nat → Hp → V → Hp → Prop} (wk : Walk J n G Y) (Pv : Addr → Nat → Hp → Prop) (h0 : ∀ D, H D = none → Pv D 0 (upd H D (.lst []))) (hG : ∀ D i H, i ≤ n → Pv D i H → G H)
    (hs : ∀ D i x H H', i < n → Pv D i H → Y i H x H' → g x (wipe σ vs) H' fun σ2 H2 => wipe σ2 vs = wipe σ vs ∧ tt σ2 H2 fun b H3 =>
      if b = true then te σ2 H3 fun y H4 => ∃ acc, H4 D = some (.lst acc) ∧ acc.length < sizeLine ∧ Pv D (i + 1) (upd H4 D (.lst (acc ++ [y]))) else Pv D (i + 1) H3) (hd : ∀ D H', H D = none → Pv D n H' → Q (.ref D) H') : LcB J g tt te vs σ H Q :=
  fun D hD => lc_it (Qd := fun H' => Q (.ref D) H') wk (Pv D) (h0 D hD) (hG D) (fun i x H1 H2 hi p y => hs D i x H1 H2 hi p y) fun H1 p => hd D H1 hD p
theorem fb_walk {n : Nat} {G : Hp → Prop} {Y : Nat → Hp → V → Hp → Prop} (wk : Walk J n G Y) (Pv : Nat → L2.St → Hp → Prop) (h0 : Pv 0 σ H) (hG : ∀ i σ H, i ≤ n → Pv i σ H → G H)
    (hs : ∀ i x σ H H', i < n → Pv i σ H → Y i H x H' → g x σ H' fun σ2 H2 => t { D with nx := Pv (i + 1), ct := Pv (i + 1), bk := D.nx } σ2 H2) (hd : ∀ σ H, Pv n σ H → D.nx σ H) : ForB J g t D σ H :=
  for_it wk Pv h0 hG hs hd
theorem o_lcEnd {σ : L2.St} {Q : VK} {x : V} : Q x H = Q x H := rfl
end
/-- the slots at a def's entry, by their number -/
def startN (n : Nat) (vs : List V) : L2.St := vs.map some ++ List.replicate (n - vs.length) none
theorem start_n {N : List Str} {vs : List V} {n : Nat} (h : N.length = n) : start N vs = startN n vs := by
  subst h; rfl
end Tw
set_option Elab.async false
set_option linter.all false
set_option maxRecDepth 100000
set_option maxHeartbeats 4000000
namespace Tw
open PySem PySem.Spec PyProof.Rows L2 TL
theorem o_wipe0 {σ : L2.St} : wipe σ [] = σ := rfl
theorem o_wipe1 {σ : L2.St} {v : Nat} {vs : List Nat} : wipe σ (v :: vs) = (wipe σ vs).set v none := rfl
theorem o_yes {σ : L2.St} {H : Hp} {Q : Bool → Hp → Prop} : tYes σ H Q = Q true H := rfl
local macro_rules | `(tactic| walk_at "rd") => `(tactic| simp only [o_op, o_un, o_var, o_c, o_cb, o_call, o_cons, o_nil, o_tup, o_lst, o_I0, o_I, o_int1, o_intb, o_abs, o_test, o_b, o_not, o_and, o_or, o_andV, o_orV, o_notV, o_ifE, o_isN, o_notN, o_eq, o_ne, o_seq, o_next, o_asg, o_name, o_sub, o_par, o_drop, o_ret, o_retN, o_ifS, o_sl, o_noPart, o_part, o_bm, o_bm0, o_m0, o_m1, e_bl, e_int, e_str, e_some, e_two, o_for, o_lc, o_iList, o_iTup, o_iRng1, e_int1, e_ref, o_yes, o_wipe0, o_wipe1, true_and, if_pos, List.getElem?_cons_zero, List.getElem?_cons_succ, List.set_cons_zero, List.set_cons_succ, List.append_nil])
/-- a deck stands at a: three ints -/
def DeckAt (H : Hp) (a : Addr) : Prop := ∃ g m c : Int, H a = some (.lst [.int g, .int m, .int c])
/-- all that was tracked stands as it was, but for the deck at a, which is one still -/
structure Dk (a : Addr) (H H' : Hp) : Prop where
  keep : ∀ b o, H b = some o → b ≠ a → H' b = some o
  deck : DeckAt H' a
theorem Dk.refl {a : Addr} {H : Hp} (d : DeckAt H a) : Dk a H H := ⟨fun _ _ h _ => h, d⟩
theorem Dk.trans {a : Addr} {H H1 H2 : Hp} (x : Dk a H H1) (y : Dk a H1 H2) : Dk a H H2 := ⟨fun b o h n => y.keep b o (x.keep b o h n) n, y.deck⟩
theorem Dk.new {a p : Addr} {H H1 : Hp} {o : HO} (x : Dk a H H1) (n : H1 p = none) : Dk a H (upd H1 p o) :=
  ⟨fun b u h nb => by rw [upd_ne (ne_of_none (x.keep b u h nb) n)]; exact x.keep b u h nb, by
    obtain ⟨g, m, c, e⟩ := x.deck
    exact ⟨g, m, c, by rw [upd_ne (ne_of_none e n)]; exact e⟩⟩
def sp_l_draw : Sp := fun vs H Q _ => ∃ (a : Addr) (n : Int), vs = [.ref a, .int n] ∧ DeckAt H a ∧ 0 < n ∧ n < 1073741824 ∧ ∀ (d : Int) (H' : Hp), 0 ≤ d → d < n → Dk a H H' → Q (.int d) H'
theorem len_l_draw (vs : List V) (H : Hp) (Q : VK) (E : XK) (h : sp_l_draw vs H Q E) : vs.length = 2 := by
  obtain ⟨a, n, rfl, _⟩ := h
  rfl
def t_l_draw (K : PySem.W.Frag) : TS :=
  (tSeq (tIfS (tTest (tOp (rI0 fun i j => .bl (decide (j < i))) (tOp (rIxL K) (tVar 0) (tC (.int 0))) (tC (.int 0)))) (tSeq (tAsg (tOp (rI (fun _ j => 0 < j) fun i j => .int (i % j)) (tCB rInt1 (tCons (tOp (rIxL K) (tVar 0) (tC (.int 0))) tNil)) (tVar 1)) (gName 2))
  (tSeq (tAsg (tOp (rI CDiv fun i j => .int (i / j)) (tOp (rIxL K) (tVar 0) (tC (.int 0))) (tVar 1)) (gSub (tVar 0) (tC (.int 0)) rSetL))
  (tRet (tVar 2)))) tNext)
  (tSeq (tAsg (tOp (rI0 fun i j => .int (i + j)) (tOp (rIxL K) (tVar 0) (tC (.int 2))) (tC (.int 1))) (gSub (tVar 0) (tC (.int 2)) rSetL))
  (tSeq (tAsg (tOp (rI (fun _ j => 0 < j) fun i j => .int (i % j)) (tCB rInt1 (tCons (tOp (rI0 fun i j => .int (i + j)) (tOp (rIxL K) (tVar 0) (tC (.int 1))) (tOp (rI CMul fun i j => .int (i * j)) (tC (.int 11400714819323198485)) (tOp (rIxL K) (tVar 0) (tC (.int 2))))) tNil)) (tC (.int 18446744073709551557))) (gName 3))
  (tSeq (tAsg (tOp (rI (fun _ j => 0 < j) fun i j => .int (i % j)) (tCB rInt1 (tCons (tOp (rI CMul fun i j => .int (i * j)) (tVar 3) (tOp (rI0 fun i j => .int (i + j)) (tOp (rI (fun _ j => 0 < j) fun i j => .int (i % j)) (tVar 3) (tC (.int 4294967291))) (tC (.int 7)))) tNil)) (tC (.int 2305843009213693951))) (gName 3))
  (tRet (tOp (rI (fun _ j => 0 < j) fun i j => .int (i % j)) (tOp (rI CDiv fun i j => .int (i / j)) (tOp (rI (fun _ j => 0 < j) fun i j => .int (i % j)) (tCB rInt1 (tCons (tOp (rI CMul fun i j => .int (i * j)) (tVar 3) (tVar 3)) tNil)) (tC (.int 2305843009213693921))) (tC (.int 2048))) (tVar 1)))))))
def t_l_deck (K : PySem.W.Frag) : TS :=
  (tSeq (tPar 1 2 (tCons (tC (.int 0)) (tCons (tOp (rI0 fun i j => .int (i + j)) (tC (.int 2917)) (tOp (rI CMul fun i j => .int (i * j)) (tC (.int 41)) (tCB (rLenSeq K) (tCons (tVar 0) tNil)))) tNil)))
  (tSeq (tFor (iList K (L2.tSl (rSlL K) (tVar 0) tNoPart (tPart (tC (.int 60))))) (gName 3)
  (tSeq (tAsg (tOp (rI0 fun i j => .int (i + j)) (tOp (rI0 fun i j => .int (i + j)) (tOp (rI CMul fun i j => .int (i * j)) (tC (.int 2)) (tCB rAbs (tCons (tVar 3) tNil))) (tCB rInt1 (tCons (tOp (rI0 fun i j => .bl (decide (i < j))) (tVar 3) (tC (.int 0))) tNil))) (tC (.int 1))) (gName 4))
  (tSeq (tAsg (tOp (rI (fun _ j => 0 < j) fun i j => .int (i % j)) (tCB rInt1 (tCons (tOp (rI0 fun i j => .int (i + j)) (tOp (rI CMul fun i j => .int (i * j)) (tVar 2) (tC (.int 6364136223846793005))) (tVar 4)) tNil)) (tC (.int 2305843009213693951))) (gName 2))
  (tIfS (tTest (tOp (rI0 fun i j => .bl (decide (j ≤ i))) (tCB rAbs (tCons (tVar 3) tNil)) (tOp (rI CPow fun i j => .int (i ^ j.toNat)) (tC (.int 10)) (tC (.int 18))))) (tAsg (tOp (rI0 fun i j => .int (i + j)) (tOp (rI CMul fun i j => .int (i * j)) (tVar 1) (tC (.int 37))) (tCB rAbs (tCons (tVar 3) tNil))) (gName 1)) tNext))))
  (tRet (tLst (tCons (tVar 1) (tCons (tVar 2) (tCons (tC (.int 0)) tNil)))))))
def t_l_name (K : PySem.W.Frag) : TS :=
  (tSeq (tAsg (tC (.str "abcdefghijklmnopqrstuvwxyz")) (gName 1))
  (tRet (tM1 (rJoin K) (tC (.str "")) (tLc (iRng1 (tCons (tOp (rI0 fun i j => .int (i + j)) (tC (.int 1)) (tCall sp_l_draw [] E0 (tCons (tVar 0) (tCons (tC (.int 8)) tNil)))) tNil)) (gName 2) tYes (tOp rIxS (tVar 1) (tCall sp_l_draw [] E0 (tCons (tVar 0) (tCons (tC (.int 26)) tNil)))) [2]))))
section
variable {K : PySem.W.Frag}
theorem big_mod (x : Int) : -(2 ^ 64) < x % 18446744073709551557 ∧ x % 18446744073709551557 < 2 ^ 64 := by omega
theorem big_mod2 (x : Int) : -(2 ^ 64) < x % 2305843009213693951 ∧ x % 2305843009213693951 < 2 ^ 64 := by omega
theorem o_ixL {p : Addr} {xs : List V} {i : Int} {v : V} {H : Hp} {Q : VK} (h : H p = some (.lst xs)) (e : atI xs i = some v) (q : Q v H) : rIxL K (.ref p) (.int i) H Q := ⟨p, xs, i, v, rfl, rfl, SqL.of h, e, q⟩
theorem pure_l_draw (vs : List V) (H : Hp) (Q : VK) (E : XK) (h : sp_l_draw vs H Q E) : t_l_draw K { nx := fun _ H' => Q .non H', rt := Q } (startN 4 vs) H := by
  obtain ⟨a, n, rfl, ⟨g, m, c, hd⟩, hn, hn2, q⟩ := h
  show t_l_draw K _ [some (.ref a), some (.int n), none, none] H
  unfold t_l_draw
  walk_at "rd"
  refine o_ixL hd rfl ?_
  walk_at "rd"
  by_cases hg : 0 < g
  · rw [decide_eq_true hg, if_pos rfl]
    refine o_ixL hd rfl ?_
    walk_at "rd"
    refine ⟨hn, o_ixL hd rfl ?_⟩
    walk_at "rd"
    refine ⟨⟨hn, hn2⟩, a, _, 0, 0, rfl, rfl, hd, rfl, ?_⟩
    exact q _ _ (Int.emod_nonneg _ (by omega)) (Int.emod_lt_of_pos _ hn) ⟨fun b o e nb => by rw [upd_ne nb]; exact e, _, _, _, upd_same⟩
  · rw [decide_eq_false hg, if_neg (by decide)]
    refine o_ixL hd rfl ?_
    walk_at "rd"
    refine ⟨a, _, 2, 2, rfl, rfl, hd, rfl, ?_⟩
    refine o_ixL upd_same rfl ?_
    refine o_ixL upd_same rfl ?_
    walk_at "rd"
    refine ⟨.inl ⟨by decide, by decide⟩, by decide, by decide, .inl ?_, by decide, .inl ?_, by decide, ⟨by decide, by decide⟩, hn, ?_⟩
    · exact big_mod _
    · exact big_mod2 _
    exact q _ _ (Int.emod_nonneg _ (by omega)) (Int.emod_lt_of_pos _ hn) ⟨fun b o e nb => by rw [upd_ne nb]; exact e, _, _, _, upd_same⟩

/-- all that was tracked stands as it was -/
abbrev Kp (H H' : Hp) : Prop := ∀ b o, H b = some o → H' b = some o
theorem Kp.new {H H1 : Hp} {p : Addr} {o : HO} (x : Kp H H1) (n : H1 p = none) : Kp H (upd H1 p o) := fun b u h => by rw [upd_ne (ne_of_none (x b u h) n)]; exact x b u h
theorem Kp.free {H H1 : Hp} {p : Addr} (x : Kp H H1) (n : H1 p = none) : H p = none := by
  cases e : H p with
  | none => rfl
  | some o => rw [x p o e] at n; cases n
def sp_l_deck (K : PySem.W.Frag) : Sp := fun vs H Q _ => ∃ (a : Addr) (ns : List Int), vs = [.ref a] ∧ SqL K H a (ns.map V.int) ∧ ∀ (d : Addr) (H' : Hp), Kp H H' → DeckAt H' d → H d = none → Q (.ref d) H'
theorem len_l_deck (vs : List V) (H : Hp) (Q : VK) (E : XK) (h : sp_l_deck K vs H Q E) : vs.length = 1 := by
  obtain ⟨a, n, rfl, _⟩ := h
  rfl
theorem pure_l_deck (vs : List V) (H : Hp) (Q : VK) (E : XK) (h : sp_l_deck K vs H Q E) : t_l_deck K { nx := fun _ H' => Q .non H', rt := Q } (startN 5 vs) H := by
  obtain ⟨a, ns, rfl, hs, q⟩ := h
  show t_l_deck K _ [some (.ref a), none, none, none, none] H
  unfold t_l_deck
  walk_at "rd"
  refine ⟨a, _, rfl, .inl hs, ?_⟩
  walk_at "rd"
  refine ⟨.inl ⟨by decide, by decide⟩, ?_⟩
  refine ⟨a, _, rfl, hs, fun p hp => ?_⟩
  walk_at "rd"
  refine ⟨⟨_, SqL.of upd_same⟩, ?_⟩
  refine fb_list (fun i σ H1 => Kp H H1 ∧ H1 p = some (.lst (cutV (ns.map V.int) none (some 60))) ∧ ∃ (g m : Int) (x y : Option V), σ = [some (.ref a), some (.int g), some (.int m), x, y]) ⟨(show Kp H H from fun _ _ h => h).new hp, upd_same, _, _, _, _, rfl⟩ (fun i σ H1 _ h => SqL.of h.2.1) ?_ ?_
  · rintro i x σ H1 hx ⟨kp, h1, g, m, y, z, rfl⟩
    obtain ⟨n, rfl⟩ : ∃ n : Int, x = .int n := by
      have hm : x ∈ ns.map V.int := List.mem_of_mem_drop (List.mem_of_mem_take (List.mem_of_getElem? hx))
      obtain ⟨n, _, e⟩ := List.mem_map.mp hm
      exact ⟨n, e.symm⟩
    walk_at "rd"
    refine ⟨.inl ⟨by decide, by decide⟩, .inr ⟨by decide, by decide⟩, by decide, ⟨by decide, by decide, by decide⟩, ?_⟩
    refine ite2 (fun _ => ⟨.inr ⟨by decide, by decide⟩, kp, h1, _, _, _, _, rfl⟩) fun _ => ⟨kp, h1, _, _, _, _, rfl⟩
  · rintro σ H1 ⟨kp, h1, g, m, y, z, rfl⟩
    walk_at "rd"
    refine ⟨by show 3 ≤ sizeLine; decide, fun d hd => q d _ (kp.new hd) ⟨g, m, 0, upd_same⟩ (kp.free hd)⟩

/-! ### names -/
/-- a name: 1 to 8 letters a to z -/
structure IsName (z : Str) : Prop where
  one : 1 ≤ z.length
  eight : z.length ≤ 8
  let_ : ∀ c ∈ z.cps.toList, 97 ≤ c ∧ c ≤ 122
abbrev abc : Str := "abcdefghijklmnopqrstuvwxyz"
theorem abc_at : ∀ k : Fin 26, abc.cps.toList[k.val]? = some (97 + k.val) := by decide +kernel
theorem abc_ix {d : Int} (h0 : 0 ≤ d) (h1 : d < 26) : atI abc.cps.toList d = some (97 + d.toNat) := by
  obtain ⟨k, rfl⟩ : ∃ k : Nat, d = (k : Int) := ⟨d.toNat, by omega⟩
  exact atI_nat (abc_at ⟨k, by omega⟩)
theorem o_ixS {z : Str} {i : Int} {c : Nat} {H : Hp} {Q : VK} (hz : z.length ≤ sizeLine) (e : atI z.cps.toList i = some c) (q : Q (.str ⟨#[c]⟩) H) : rIxS (.str z) (.int i) H Q := ⟨z, i, c, rfl, rfl, hz, e, q⟩
theorem joinL_nil : ∀ ps : List (List Nat), joinL [] ps = ps.flatten
  | [] => rfl
  | [p] => by simp [joinL]
  | p :: q :: r => by
    show p ++ ([] ++ joinL [] (q :: r)) = _
    rw [joinL_nil (q :: r)]
    simp
theorem join_nil (ys : List Str) : (Txt.join ("" : Str) ys).cps.toList = (ys.map fun y => y.cps.toList).flatten := by
  rw [join_eq]
  have h := tl_join ("" : Str) ys
  have e : tl ("" : Str) = [] := by decide +kernel
  rw [e, joinL_nil] at h
  exact h
def sp_l_name : Sp := fun vs H Q _ => ∃ (a : Addr), vs = [.ref a] ∧ DeckAt H a ∧ ∀ (z : Str) (H' : Hp), IsName z → Dk a H H' → Q (.str z) H'
theorem len_l_name (vs : List V) (H : Hp) (Q : VK) (E : XK) (h : sp_l_name vs H Q E) : vs.length = 1 := by
  obtain ⟨a, rfl, _⟩ := h
  rfl
theorem o_draw {a : Addr} {n : Int} {H : Hp} {Q : VK} {E : XK} (hd : DeckAt H a) (h0 : 0 < n) (h1 : n < 1073741824) (q : ∀ (d : Int) (H' : Hp), 0 ≤ d → d < n → Dk a H H' → Q (.int d) H') : sp_l_draw [.ref a, .int n] H Q E := ⟨a, n, rfl, hd, h0, h1, q⟩
theorem one_letters {ys : List Str} (h : ∀ y ∈ ys, ∃ c, y = ⟨#[c]⟩ ∧ 97 ≤ c ∧ c ≤ 122) : (Txt.join ("" : Str) ys).length = ys.length ∧ ∀ c ∈ (Txt.join ("" : Str) ys).cps.toList, 97 ≤ c ∧ c ≤ 122 := by
  refine ⟨?_, fun c hc => ?_⟩
  · show (Txt.join ("" : Str) ys).cps.size = _
    rw [← Array.length_toList, join_nil]
    induction ys with
    | nil => rfl
    | cons y ys ih =>
      obtain ⟨c, rfl, _⟩ := h y (List.mem_cons_self ..)
      rw [List.map_cons, List.flatten_cons, List.length_append, ih fun y hy => h y (List.mem_cons_of_mem _ hy), List.length_cons]
      show 1 + ys.length = ys.length + 1
      omega
  · rw [join_nil] at hc
    obtain ⟨l, hl, hc⟩ := List.mem_flatten.mp hc
    obtain ⟨y, hy, rfl⟩ := List.mem_map.mp hl
    obtain ⟨d, rfl, h1, h2⟩ := h y hy
    have e : c = d := by simpa using hc
    rw [e]; exact ⟨h1, h2⟩
theorem one_sum : ∀ {ys : List Str}, (∀ y ∈ ys, ∃ c, y = ⟨#[c]⟩ ∧ 97 ≤ c ∧ c ≤ 122) → (ys.map (·.length)).sum = ys.length
  | [], _ => rfl
  | y :: ys, h => by
    obtain ⟨c, rfl, _⟩ := h y (List.mem_cons_self ..)
    rw [List.map_cons, List.sum_cons, one_sum fun y hy => h y (List.mem_cons_of_mem _ hy), List.length_cons]
    show 1 + ys.length = ys.length + 1
    omega
theorem pure_l_name (vs : List V) (H : Hp) (Q : VK) (E : XK) (h : sp_l_name vs H Q E) : t_l_name K { nx := fun _ H' => Q .non H', rt := Q } (startN 3 vs) H := by
  obtain ⟨a, rfl, hd, q⟩ := h
  show t_l_name K _ [some (.ref a), none, none] H
  unfold t_l_name
  walk_at "rd"
  refine ⟨⟨_, rfl⟩, o_draw hd (by decide) (by decide) fun d H1 h0 h1 k => ?_⟩
  walk_at "rd"
  refine ⟨by omega, by omega, ?_⟩
  refine lb_walk walk_range (fun D i H2 => Dk a H H2 ∧ ∃ ys : List Str, ys.length = i ∧ H2 D = some (.lst (ys.map V.str)) ∧ H1 D = none ∧ ∀ y ∈ ys, ∃ c, y = ⟨#[c]⟩ ∧ 97 ≤ c ∧ c ≤ 122) ?_ (fun _ _ _ _ _ => trivial) ?_ ?_
  · intro D hD
    exact ⟨k.new hD, [], rfl, upd_same, hD, by simp⟩
  · rintro D i x H2 H3 hi ⟨k2, ys, hl, h2, hD, hy⟩ ⟨rfl, rfl⟩
    have ha : a ≠ D := by
      obtain ⟨g, m, c, e⟩ := k.deck
      exact ne_of_none e hD
    walk_at "rd"
    refine o_draw k2.deck (by decide) (by decide) fun e H4 h0 h1 k4 => ?_
    refine o_ixS (by decide) (abc_ix h0 h1) ⟨_, k4.keep _ _ h2 ha.symm, ?_, ?_⟩
    · rw [List.length_map, hl]; exact small1000 (by omega)
    · refine ⟨?_, ys ++ [⟨#[97 + e.toNat]⟩], by simp [hl], by rw [upd_same]; simp, hD, ?_⟩
      · have k5 := k2.trans k4
        refine ⟨fun b o h nb => ?_, ?_⟩
        · have n : b ≠ D := ne_of_none (k.keep b o h nb) hD
          rw [upd_ne n]; exact k5.keep b o h nb
        · obtain ⟨g, m, c, e⟩ := k5.deck
          exact ⟨g, m, c, by rw [upd_ne ha]; exact e⟩
      · intro y hy'
        rcases List.mem_append.mp hy' with h | h
        · exact hy y h
        · have e2 := List.mem_singleton.mp h
          exact ⟨_, e2, by omega, by omega⟩
  · rintro D H2 hD ⟨k2, ys, hl, h2, _, hy⟩
    obtain ⟨l, c⟩ := one_letters hy
    refine ⟨_, D, ys, rfl, rfl, .inl (SqL.of h2), ?_, q _ _ ⟨?_, ?_, c⟩ k2⟩
    · have e : (("" : Str)).length = 0 := by decide +kernel
      rw [e, one_sum hy]; omega
    · omega
    · omega
end
end Tw
set_option Elab.async false
set_option linter.all false
set_option maxRecDepth 100000
set_option maxHeartbeats 4000000
namespace Tw
open PySem PySem.Spec PyProof.Rows L2 TL
abbrev rRepStr : R2 := fun x y H Q => ∃ z n, x = .str z ∧ y = .int n ∧ MulOk z n ∧ Q (.str (Txt.mul z n)) H
theorem op_rep_str {X : Cx} : OpR X (binaryOp .Mult) rRepStr := by
  intro pins s σ H x y v u Q I rx ry h
  obtain ⟨z, n, rfl, rfl, ok, q⟩ := h
  obtain ⟨t, rfl⟩ := rx
  obtain ⟨t', rfl⟩ := ry
  exact SB.mul ok fun t' k => ⟨.str (Txt.mul z n), H, I.tok _, ⟨_, rfl⟩, q⟩
theorem o_par3 {i j l : Nat} {ta : TA} {D : Ends} {σ : L2.St} {H : Hp} : tPar3 i j l ta D σ H = ta σ H fun vs H1 => ∃ u v w, vs = [u, v, w] ∧ D.nx (((σ.set i (some u)).set j (some v)).set l (some w)) H1 := rfl
theorem e_three {a b c : V} {P : V → V → V → Prop} : (∃ u v w, [a, b, c] = [u, v, w] ∧ P u v w) = P a b c := by
  apply propext; constructor
  · rintro ⟨c, d, e, h, q⟩; cases h; exact q
  · intro q; exact ⟨a, b, c, rfl, q⟩
end Tw
namespace Tw
open PySem PySem.Spec PyProof.Rows L2 TL
local macro_rules | `(tactic| walk_at "rd") => `(tactic| try simp only [o_op, o_un, o_var, o_c, o_cb, o_call, o_cons, o_nil, o_tup, o_lst, o_I0, o_I, o_int1, o_intb, o_abs, o_test, o_b, o_not, o_and, o_or, o_andV, o_orV, o_notV, o_ifE, o_isN, o_notN, o_eq, o_ne, o_seq, o_next, o_asg, o_name, o_sub, o_par, o_par3, o_drop, o_ret, o_retN, o_ifS, o_sl, o_noPart, o_part, o_bm, o_bm0, o_m0, o_m1, e_bl, e_int, e_str, e_some, e_two, e_three, o_for, o_lc, o_iList, o_iTup, o_iRng1, e_int1, e_ref, o_yes, o_wipe0, o_wipe1, true_and, if_pos, List.getElem?_cons_zero, List.getElem?_cons_succ, List.set_cons_zero, List.set_cons_succ, List.append_nil])
def t_l_names_b1 (K : PySem.W.Frag) : TS :=
  (tSeq (tAsg (tOp (rIxL K) (tVar 3) (tVar 7)) (gName 11))
  (tAsg (tOp (rI0 fun i j => .int (i + j)) (tVar 7) (tC (.int 1))) (gName 7)))
def t_l_names_r1 (K : PySem.W.Frag) : TS :=
  (tSeq (tWhile (tTest (tOp (rIn K false) (tVar 11) (tVar 8)))
  (t_l_names_b1 K))
  (tDrop (tBM K "list" rAppend (tVar 8) (tCons (tVar 11) tNil))))
def t_l_names_r2 (K : PySem.W.Frag) : TS :=
  (C8.tCut (tIfS (tTest (tOp rEq (tVar 10) (tC (.int 0)))) (tAsg (tCall sp_l_name [] E0 (tCons (tVar 0) tNil)) (gName 11)) (tIfS (tTest (tOp rEq (tVar 10) (tC (.int 1)))) (tAsg (tOp rAddStr (tOp rAddStr (L2.tSl rSlS (tVar 5) tNoPart (tPart (tVar 6))) (tOp rIxS (tVar 2) (tCall sp_l_draw [] E0 (tCons (tVar 0) (tCons (tC (.int 26)) tNil))))) (L2.tSl rSlS (tVar 5) (tPart (tOp (rI0 fun i j => .int (i + j)) (tVar 6) (tC (.int 1)))) tNoPart)) (gName 11)) (tAsg (L2.tSl rSlS (tVar 5) tNoPart (tPart (tOp (rI0 fun i j => .int (i + j)) (tC (.int 1)) (tCall sp_l_draw [] E0 (tCons (tVar 0) (tCons (tC (.int 8)) tNil)))))) (gName 11))))
  (t_l_names_r1 K))
def t_l_names_b2 (K : PySem.W.Frag) : TS :=
  (C8.tCut (tAsg (tIf (tTest (tOp rEq (tVar 4) (tC (.int 3)))) (tCall sp_l_draw [] E0 (tCons (tVar 0) (tCons (tC (.int 3)) tNil))) (tVar 4)) (gName 10))
  (t_l_names_r2 K))
def t_l_names (K : PySem.W.Frag) : TS :=
  (tSeq (tAsg (tC (.str "abcdefghijklmnopqrstuvwxyz")) (gName 2))
  (tSeq (tAsg (tLc (iRng1 (tCons (tC (.int 676)) tNil)) (gName 9) tYes (tOp rAddStr (tOp rIxS (tVar 2) (tOp (rI CDiv fun i j => .int (i / j)) (tVar 9) (tC (.int 26)))) (tOp rIxS (tVar 2) (tOp (rI (fun _ j => 0 < j) fun i j => .int (i % j)) (tVar 9) (tC (.int 26))))) [9]) (gName 3))
  (tSeq (tPar 4 5 (tCons (tCall sp_l_draw [] E0 (tCons (tVar 0) (tCons (tC (.int 4)) tNil))) (tCons (L2.tSl rSlS (tOp rRepStr (tCall sp_l_name [] E0 (tCons (tVar 0) tNil)) (tC (.int 8))) tNoPart (tPart (tC (.int 8)))) tNil)))
  (tSeq (tPar3 6 7 8 (tCons (tCall sp_l_draw [] E0 (tCons (tVar 0) (tCons (tC (.int 8)) tNil))) (tCons (tC (.int 0)) (tCons (tLst tNil) tNil))))
  (tSeq (tFor (iRng1 (tCons (tVar 1) tNil)) (gName 9)
  (t_l_names_b2 K))
  (tRet (tVar 8)))))))
section
variable {K : PySem.W.Frag}
/-! texts of letters -/
def Lets (l : List Nat) : Prop := ∀ c ∈ l, 97 ≤ c ∧ c ≤ 122
theorem IsName.of {z : Str} {l : List Nat} (e : z.cps.toList = l) (h : Lets l) (h1 : 1 ≤ l.length) (h8 : l.length ≤ 8) : IsName z := by
  have hz : z.length = l.length := by show z.cps.size = _; rw [← Array.length_toList, e]
  exact ⟨by omega, by omega, by rw [e]; exact h⟩
theorem IsName.lets {z : Str} (h : IsName z) : Lets z.cps.toList := h.let_
theorem len_tl (z : Str) : z.length = z.cps.toList.length := (Array.length_toList).symm
theorem tl_cut (z : Str) (lo hi : Option Int) : (cutS z lo hi).cps.toList = (z.cps.toList.drop (HT.sIx z.length 0 lo)).take (HT.sIx z.length z.length hi - HT.sIx z.length 0 lo) := rfl
theorem tl_app (x y : Str) : (x ++ y).cps.toList = x.cps.toList ++ y.cps.toList := Array.toList_append
theorem foldl_app (xs : List (Array Nat)) : ∀ a : Array Nat, (xs.foldl (· ++ ·) a).toList = a.toList ++ (xs.map Array.toList).flatten := by
  induction xs with
  | nil => intro a; simp
  | cons x xs ih => intro a; rw [List.foldl_cons, ih]; simp
theorem tl_mul8 {z : Str} (h : 1 ≤ z.length) : (Txt.mul z 8).cps.toList = (List.replicate 8 z.cps.toList).flatten := by
  unfold Txt.mul
  rw [if_neg (by omega)]
  have e : ((8 : Int) == 1 || z.length == 0) = false := by
    rw [Bool.or_eq_false_iff]; exact ⟨by decide, by simpa using (by omega : z.length ≠ 0)⟩
  rw [e, if_neg (by decide)]
  show ((List.replicate 8 z.cps).foldl (· ++ ·) #[]).toList = _
  rw [foldl_app]; simp
theorem mulOk8 {z : Str} (h : z.length ≤ 8) : MulOk z 8 := by
  refine ⟨by decide, fun _ _ => ?_, fun _ _ => ?_⟩
  · have e : ((2 : Int) ^ 63 - 1) / 8 = 1152921504606846975 := by decide
    rw [e]; omega
  · rw [show (8 : Int).toNat = 8 from rfl]
    show decide _ = false
    have := sizeLine_eq; exact decide_eq_false (by omega)

/-! spare names -/
def spareS (k : Nat) : Str := ⟨#[97 + k / 26, 97 + k % 26]⟩
theorem spare_name {k : Nat} (h : k < 676) : IsName (spareS k) := by
  refine IsName.of (l := [97 + k / 26, 97 + k % 26]) rfl ?_ (by simp) (by simp)
  intro c hc
  simp only [List.mem_cons, List.not_mem_nil, or_false] at hc
  omega
theorem spare_inj {j k : Nat} (h : spareS j = spareS k) : j = k := by
  have e : [97 + j / 26, 97 + j % 26] = [97 + k / 26, 97 + k % 26] := congrArg (fun z : Str => z.cps.toList) h
  simp only [List.cons.injEq, and_true] at e
  omega
theorem spares_nodup : ∀ n, ((List.range n).map spareS).Nodup := fun n =>
  (List.nodup_range).map _ fun a b h e => h (spare_inj e)
theorem spares_le {t : Nat} {zs : List Str} (h : ∀ j, j < t → spareS j ∈ zs) : t ≤ zs.length := by
  have q := length_le_of_nodup_of_subset _ zs (spares_nodup t) fun a ha => by
    obtain ⟨j, hj, rfl⟩ := List.mem_map.mp ha
    exact h j (List.mem_range.mp hj)
  simpa using q
/-! in over texts -/
theorem inV_str (z : Str) (zs : List Str) : inV (.str z) (zs.map V.str) = decide (z ∈ zs) := by
  unfold inV
  induction zs with
  | nil => rfl
  | cons y ys ih =>
    rw [List.map_cons, List.any_cons, ih]
    show (y == z || _) = _
    by_cases h : y = z
    · subst h; simp
    · have h2 : (y == z) = false := by simpa using h
      have h3 : ¬ z = y := fun e => h e.symm
      rw [h2]; simp [h3]
theorem flat_strs (zs : List Str) : (zs.map V.str).all flatV = true := by simp [List.all_eq_true, flatV]
def sp_l_names : Sp := fun vs H Q _ => ∃ (a : Addr) (n : Int), vs = [.ref a, .int n] ∧ DeckAt H a ∧ 0 ≤ n ∧ n ≤ 300 ∧
  ∀ (p : Addr) (zs : List Str) (H' : Hp), H p = none → Dk a H H' → H' p = some (.lst (zs.map V.str)) → (zs.length : Int) = n → zs.Nodup → (∀ z ∈ zs, IsName z) → Q (.ref p) H'
theorem len_l_names (vs : List V) (H : Hp) (Q : VK) (E : XK) (h : sp_l_names vs H Q E) : vs.length = 2 := by
  obtain ⟨a, n, rfl, _⟩ := h
  rfl
theorem o_namer {a : Addr} {H : Hp} {Q : VK} {E : XK} (hd : DeckAt H a) (q : ∀ (z : Str) (H' : Hp), IsName z → Dk a H H' → Q (.str z) H') : sp_l_name [.ref a] H Q E := ⟨a, rfl, hd, q⟩
theorem nodup_snoc {α : Type} [DecidableEq α] {l : List α} {x : α} (h : l.Nodup) (hx : x ∉ l) : (l ++ [x]).Nodup := by
  rw [List.nodup_append]
  refine ⟨h, by simp, fun a ha b hb e => hx ?_⟩
  rw [← List.mem_singleton.mp hb, ← e]; exact ha
/-- the deck at a and the list at ns have changed, no more -/
structure Dk2 (a ns : Addr) (H H' : Hp) : Prop where
  keep : ∀ b o, H b = some o → b ≠ a → b ≠ ns → H' b = some o
  deck : DeckAt H' a
theorem o_isIn {p : Addr} {zs : List Str} {z : Str} {H : Hp} {Q : VK} (h : H p = some (.lst (zs.map V.str))) (q : Q (.bl (decide (z ∈ zs))) H) : rIn K false (.str z) (.ref p) H Q :=
  ⟨p, _, rfl, .inl (SqL.of h), rfl, flat_strs zs, by rw [if_neg (by decide), inV_str]; exact q⟩
theorem names_r1 {H : Hp} {D : Ends} {sp ns a : Addr} {zs : List Str} {t : Nat} {z : Str} {x0 x1 x2 x4 x5 x6 x9 x10 : Option V} (hd : DeckAt H a) (hna : ns ≠ a) (hnD : ns ≠ sp)
    (s5 : H sp = some (.lst ((List.range 676).map fun k => V.str (spareS k)))) (n5 : H ns = some (.lst (zs.map V.str))) (nd : zs.Nodup) (hspr : ∀ j, j < t → spareS j ∈ zs) (hl : zs.length < 300) (hz : IsName z)
    (q : ∀ (H' : Hp) (t' : Nat) (z' : Str), Dk2 a ns H H' → z' ∉ zs → IsName z' → (∀ j, j < t' → spareS j ∈ zs ++ [z']) → H' ns = some (.lst ((zs ++ [z']).map V.str)) → D.nx [x0, x1, x2, some (.ref sp), x4, x5, x6, some (.int t'), some (.ref ns), x9, x10, some (.str z')] H') :
    t_l_names_r1 K D [x0, x1, x2, some (.ref sp), x4, x5, x6, some (.int t), some (.ref ns), x9, x10, some (.str z)] H := by
  unfold t_l_names_r1
  walk_at "rd"
  refine ⟨fun m σ H' => H' = H ∧ ∃ (t : Nat) (z : Str), IsName z ∧ (∀ j, j < t → spareS j ∈ zs ∨ spareS j = z) ∧ t ≤ 301 ∧ m = 1000 - t ∧ σ = [x0, x1, x2, some (.ref sp), x4, x5, x6, some (.int t), some (.ref ns), x9, x10, some (.str z)],
    ⟨_, rfl, t, z, hz, fun j h => .inl (hspr j h), by have := spares_le hspr; omega, rfl, rfl⟩, ?_⟩
  rintro m σ H1 ⟨rfl, t, z, hz, hs, ht, rfl, rfl⟩
  walk_at "rd"
  refine o_isIn n5 ?_
  walk_at "rd"
  refine ite2 (fun hin => ?_) (fun hin => ?_)
  · have hin : z ∈ zs := of_decide_eq_true hin
    have hs' : ∀ j, j < t → spareS j ∈ zs := fun j hj => by
      rcases hs j hj with h | h
      · exact h
      · rw [h]; exact hin
    have hle := spares_le hs'
    refine ⟨fun σ' H' => ∃ m', m' < 1000 - t ∧ H' = H1 ∧ ∃ (t : Nat) (z : Str), IsName z ∧ (∀ j, j < t → spareS j ∈ zs ∨ spareS j = z) ∧ t ≤ 301 ∧ m' = 1000 - t ∧ σ' = [x0, x1, x2, some (.ref sp), x4, x5, x6, some (.int t), some (.ref ns), x9, x10, some (.str z)], fun _ _ h => h, ?_⟩
    unfold t_l_names_b1
    walk_at "rd"
    refine o_ixL s5 (v := .str (spareS t)) (atI_nat (by rw [List.getElem?_map, List.getElem?_range (by omega)]; rfl)) ?_
    walk_at "rd"
    refine ⟨1000 - (t + 1), by omega, t + 1, spareS t, spare_name (by omega), fun j hj => ?_, by omega, rfl, rfl⟩
    by_cases e : j = t
    · exact .inr (by rw [e])
    · exact .inl (hs' j (by omega))
  · have hin : z ∉ zs := fun h => hin (decide_eq_true h)
    refine ⟨.inl ⟨rfl, _, SqL.of n5⟩, ns, _, _, rfl, rfl, n5, by rw [List.length_map]; exact small1000 (by omega), ?_⟩
    refine q _ t z ⟨fun b o e nb n2 => by rw [upd_ne n2]; exact e, ?_⟩ hin hz (fun j hj => ?_) (by rw [upd_same]; simp)
    · obtain ⟨g, m, c, e⟩ := hd
      exact ⟨g, m, c, by rw [upd_ne hna.symm]; exact e⟩
    · rcases hs j hj with h | h
      · exact List.mem_append_left _ h
      · rw [h]; exact List.mem_append_right _ (List.mem_singleton.mpr rfl)
theorem names_b2 {H : Hp} {D : Ends} {sp ns a : Addr} {zs : List Str} {t : Nat} {base : Str} {n way place : Int} {x9 x10 x11 : Option V} {i : V} (hd : DeckAt H a) (hna : ns ≠ a) (hnD : ns ≠ sp)
    (s5 : H sp = some (.lst ((List.range 676).map fun k => V.str (spareS k)))) (n5 : H ns = some (.lst (zs.map V.str))) (nd : zs.Nodup) (hnm : ∀ z ∈ zs, IsName z) (hspr : ∀ j, j < t → spareS j ∈ zs) (hl : zs.length < 300)
    (hbl : base.cps.toList.length = 8) (hbt : Lets base.cps.toList) (p0 : 0 ≤ place) (p1 : place < 8)
    (q : ∀ (H' : Hp) (t' : Nat) (z' : Str) (kd : V), Dk2 a ns H H' → z' ∉ zs → IsName z' → (∀ j, j < t' → spareS j ∈ zs ++ [z']) → H' ns = some (.lst ((zs ++ [z']).map V.str)) → D.nx [some (.ref a), some (.int n), some (.str abc), some (.ref sp), some (.int way), some (.str base), some (.int place), some (.int t'), some (.ref ns), some i, some kd, some (.str z')] H') :
    gName 9 i [some (.ref a), some (.int n), some (.str abc), some (.ref sp), some (.int way), some (.str base), some (.int place), some (.int t), some (.ref ns), x9, x10, x11] H fun σ2 H2 => t_l_names_b2 K D σ2 H2 := by
  unfold t_l_names_b2
  walk_at "rd"
  refine ⟨fun σ' H' => Dk a H H' ∧ ∃ kd : V, (∃ k : Int, kd = .int k) ∧ σ' = [some (.ref a), some (.int n), some (.str abc), some (.ref sp), some (.int way), some (.str base), some (.int place), some (.int t), some (.ref ns), some i, some kd, x11], ?_, ?_⟩
  · walk_at "rd"
    refine ⟨rfl, ite2 (fun _ => ?_) fun _ => ⟨Dk.refl hd, _, ⟨_, rfl⟩, rfl⟩⟩
    exact o_draw hd (by decide) (by decide) fun d H1 _ _ k => ⟨k, _, ⟨_, rfl⟩, rfl⟩
  rintro σ' H1 ⟨k1, kd, ⟨kd, rfl⟩, rfl⟩
  unfold t_l_names_r2
  walk_at "rd"
  refine ⟨fun σ' H' => Dk a H1 H' ∧ ∃ z, IsName z ∧ σ' = [some (.ref a), some (.int n), some (.str abc), some (.ref sp), some (.int way), some (.str base), some (.int place), some (.int t), some (.ref ns), some i, some (.int kd), some (.str z)], ?_, ?_⟩
  · have hz := sizeLine_eq
    have hb8 : base.length = 8 := by rw [len_tl]; exact hbl
    walk_at "rd"
    refine ⟨rfl, ite2 (fun _ => ?_) fun _ => ⟨rfl, ite2 (fun _ => ?_) fun _ => ?_⟩⟩
    · exact o_namer k1.deck fun z H2 h k => ⟨k, z, h, rfl⟩
    · refine ⟨_, rfl, by omega, ?_⟩
      walk_at "rd"
      refine o_draw k1.deck (by decide) (by decide) fun d H2 d0 d1 k2 => ?_
      refine o_ixS (by decide) (abc_ix d0 d1) ?_
      have l1 : (cutS base none (some place)).cps.toList = base.cps.toList.take place.toNat := by
        rw [tl_cut, show (some place) = some ((place.toNat : Nat) : Int) from by rw [Int.toNat_of_nonneg p0], HT.sIx_nat, HT.sIx_none, hb8, List.drop_zero, Nat.sub_zero, Nat.min_eq_left (by omega)]
      have l2 : (cutS base (some (place + 1)) none).cps.toList = base.cps.toList.drop (place.toNat + 1) := by
        rw [tl_cut, show (some (place + 1)) = some ((place.toNat + 1 : Nat) : Int) from by congr 1; omega, HT.sIx_nat, HT.sIx_none, hb8, Nat.min_eq_left (by omega), List.take_of_length_le]
        rw [List.length_drop, hbl]; omega
      have n1 : (cutS base none (some place)).length = place.toNat := by rw [len_tl, l1, List.length_take, hbl]; omega
      have n2 : (cutS base (some (place + 1)) none).length = 7 - place.toNat := by rw [len_tl, l2, List.length_drop, hbl]; omega
      have n3 : (cutS base none (some place) ++ (⟨#[97 + d.toNat]⟩ : Str)).length = place.toNat + 1 := by rw [len_tl, tl_app, l1]; simp [hbl]; omega
      refine ⟨_, _, rfl, rfl, by rw [n1]; show _ + 1 ≤ _; omega, ?_⟩
      refine ⟨_, rfl, by omega, ?_⟩
      refine ⟨_, _, rfl, rfl, by rw [n2, n3]; omega, k2, _, ?_, rfl⟩
      refine IsName.of (l := base.cps.toList.take place.toNat ++ [97 + d.toNat] ++ base.cps.toList.drop (place.toNat + 1)) ?_ ?_ ?_ ?_
      · rw [tl_app, tl_app, l1, l2]
      · intro c hc
        rcases List.mem_append.mp hc with h | h
        · rcases List.mem_append.mp h with h | h
          · exact hbt c (List.mem_of_mem_take h)
          · have := List.mem_singleton.mp h; omega
        · exact hbt c (List.mem_of_mem_drop h)
      · simp [hbl]; omega
      · simp [hbl]; omega
    · refine o_draw k1.deck (by decide) (by decide) fun d H2 d0 d1 k2 => ?_
      walk_at "rd"
      refine ⟨_, rfl, by omega, k2, _, ?_, rfl⟩
      have l1 : (cutS base none (some (1 + d))).cps.toList = base.cps.toList.take (1 + d.toNat) := by
        rw [tl_cut, show (some (1 + d)) = some ((1 + d.toNat : Nat) : Int) from by congr 1; omega, HT.sIx_nat, HT.sIx_none, hb8, List.drop_zero, Nat.sub_zero, Nat.min_eq_left (by omega)]
      refine IsName.of l1 (fun c hc => hbt c (List.mem_of_mem_take hc)) ?_ ?_
      · rw [List.length_take, hbl]; omega
      · rw [List.length_take, hbl]; omega
  rintro σ' H2 ⟨k2, z, hz, rfl⟩
  have k3 := k1.trans k2
  have hsa : sp ≠ a := fun e => by
    obtain ⟨g, m, c, e2⟩ := hd
    rw [e, e2] at s5; cases s5
  refine names_r1 k3.deck hna hnD (k3.keep _ _ s5 hsa) (k3.keep _ _ n5 hna) nd hspr hl hz fun H3 t' z' k4 h1 h2 h3 h4 => ?_
  exact q H3 t' z' _ ⟨fun b o e nb n2 => k4.keep b o (k3.keep b o e nb) nb n2, k4.deck⟩ h1 h2 h3 h4
theorem pure_l_names (vs : List V) (H : Hp) (Q : VK) (E : XK) (h : sp_l_names vs H Q E) : t_l_names K { nx := fun _ H' => Q .non H', rt := Q } (startN 12 vs) H := by
  obtain ⟨a, n, rfl, hd, hn0, hn, q⟩ := h
  show t_l_names K _ [some (.ref a), some (.int n), none, none, none, none, none, none, none, none, none, none] H
  unfold t_l_names
  walk_at "rd"
  refine ⟨by decide, by decide, ?_⟩
  refine lb_walk walk_range (fun D i H2 => H D = none ∧ Kp H H2 ∧ H2 D = some (.lst ((List.range i).map fun k => V.str (spareS k)))) ?_ (fun _ _ _ _ _ => trivial) ?_ ?_
  · intro D hD
    exact ⟨hD, (show Kp H H from fun _ _ h => h).new hD, upd_same⟩
  · rintro D i x H2 H3 hi ⟨hD, kp, h2⟩ ⟨rfl, rfl⟩
    walk_at "rd"
    have hi2 : i < 676 := hi
    refine ⟨⟨by decide, by decide⟩, ?_⟩
    refine o_ixS (by decide) (abc_ix (by omega) (by omega)) ?_
    refine ⟨by decide, ?_⟩
    refine o_ixS (by decide) (abc_ix (by omega) (by omega)) ?_
    refine ⟨_, _, rfl, rfl, (by show 2 ≤ sizeLine; decide), ?_⟩
    refine ⟨_, h2, ?_, ?_⟩
    · simp only [List.length_map, List.length_range]; exact small1000 (by omega)
    · refine ⟨hD, fun b o e => ?_, ?_⟩
      · rw [upd_ne (ne_of_none e hD)]; exact kp b o e
      · rw [upd_same, List.range_succ, List.map_append]
        have e : (⟨#[97 + ((0 + (i : Int)) / 26).toNat]⟩ : Str) ++ ⟨#[97 + ((0 + (i : Int)) % 26).toNat]⟩ = spareS i := by
          show (⟨#[97 + ((0 + (i : Int)) / 26).toNat, 97 + ((0 + (i : Int)) % 26).toNat]⟩ : Str) = ⟨#[97 + i / 26, 97 + i % 26]⟩
          have h1 : ((0 + (i : Int)) / 26).toNat = i / 26 := by omega
          have h2 : ((0 + (i : Int)) % 26).toNat = i % 26 := by omega
          rw [h1, h2]
        rw [e]; rfl
  · rintro D H1 - ⟨hD, kp1, hsp⟩
    have ha : a ≠ D := by
      obtain ⟨g, m, c, e⟩ := hd
      exact ne_of_none e hD
    have hd1 : DeckAt H1 a := by
      obtain ⟨g, m, c, e⟩ := hd
      exact ⟨g, m, c, kp1 _ _ e⟩
    refine o_draw hd1 (by decide) (by decide) fun way H2 w0 w1 k2 => ?_
    refine o_namer k2.deck fun b0 H3 hb0 k3 => ?_
    refine ⟨_, _, rfl, rfl, mulOk8 hb0.eight, ?_⟩
    have hl0 : b0.cps.toList.length = b0.length := (len_tl b0).symm
    have hm8 := tl_mul8 hb0.one
    have hml : (Txt.mul b0 8).length = 8 * b0.length := by
      rw [len_tl, hm8]; simp [hl0]; omega
    have h1 := hb0.one
    have h8 := hb0.eight
    have hz := sizeLine_eq
    refine ⟨_, rfl, by omega, ?_⟩
    -- the base: eight letters
    have hbl : (cutS (Txt.mul b0 8) none (some 8)).cps.toList.length = 8 := by
      rw [tl_cut, show (some (8 : Int)) = some ((8 : Nat) : Int) from rfl, HT.sIx_nat, HT.sIx_none, List.length_take, List.length_drop, ← len_tl]
      omega
    have hbt : Lets (cutS (Txt.mul b0 8) none (some 8)).cps.toList := by
      intro c hc
      have h2 := List.mem_of_mem_drop (List.mem_of_mem_take hc)
      rw [hm8] at h2
      obtain ⟨l, hl, hc2⟩ := List.mem_flatten.mp h2
      rw [List.eq_of_mem_replicate hl] at hc2
      exact hb0.let_ c hc2
    generalize cutS (Txt.mul b0 8) none (some 8) = base at hbl hbt ⊢
    walk_at "rd"
    refine o_draw k3.deck (by decide) (by decide) fun place H4 p0 p1 k4 => ?_
    refine ⟨by decide, fun ns hns => ?_⟩
    refine ⟨by omega, by omega, ?_⟩
    have kk4 : Dk a H1 H4 := (k2.trans k3).trans k4
    have kH : Dk a H H1 := ⟨fun b o e _ => kp1 b o e, hd1⟩
    have kk : Dk a H H4 := kH.trans kk4
    have hsp4 : H4 D = some (.lst ((List.range 676).map fun k => V.str (spareS k))) := kk4.keep _ _ hsp ha.symm
    have hnD : ns ≠ D := fun e => by rw [e, hsp4] at hns; cases hns
    have hna : ns ≠ a := fun e => by
      obtain ⟨g, m, c, e2⟩ := kk4.deck
      rw [e, e2] at hns; cases hns
    have hnH : H ns = none := by
      cases e : H ns with
      | none => rfl
      | some o => rw [kk.keep ns o e hna] at hns; cases hns
    refine fb_range (fun i σ H5 => Dk a H H5 ∧ H5 D = some (.lst ((List.range 676).map fun k => V.str (spareS k))) ∧ ∃ (t : Nat) (zs : List Str) (x y z : Option V), H5 ns = some (.lst (zs.map V.str)) ∧ zs.length = i ∧ zs.Nodup ∧ (∀ z ∈ zs, IsName z) ∧ (∀ j, j < t → spareS j ∈ zs) ∧
        σ = [some (.ref a), some (.int n), some (.str abc), some (.ref D), some (.int way), some (.str base), some (.int place), some (.int t), some (.ref ns), x, y, z]) ?_ ?_ ?_
    · refine ⟨kk.new hns, by rw [upd_ne hnD.symm]; exact hsp4, 0, [], _, _, _, upd_same, rfl, List.nodup_nil, by simp, by simp, rfl⟩
    · rintro i σ H5 hi ⟨k5, s5, t, zs, x, y, z, n5, hlen, nd, hnm, hspr, rfl⟩
      refine names_b2 k5.deck hna hnD s5 n5 nd hnm hspr (by omega) hbl hbt p0 p1 fun H6 t' z' kd k6 hz1 hz2 hsp6 hn6 => ?_
      refine ⟨⟨fun b o e nb => ?_, k6.deck⟩, ?_, t', zs ++ [z'], _, _, _, hn6, by simp [hlen], nodup_snoc nd hz1, ?_, hsp6, rfl⟩
      · have e2 : b ≠ ns := ne_of_none e hnH
        exact (k6.keep b o (k5.keep b o e nb) nb e2)
      · exact k6.keep _ _ s5 ha.symm hnD.symm
      · intro w hw
        rcases List.mem_append.mp hw with h | h
        · exact hnm w h
        · rw [List.mem_singleton.mp h]; exact hz2
    · rintro σ H5 ⟨k5, s5, t, zs, x, y, z, n5, hlen, nd, hnm, hspr, rfl⟩
      walk_at "rd"
      exact q ns zs H5 hnH k5 n5 (by omega) nd hnm
end
end Tw
set_option Elab.async false
set_option linter.all false
set_option maxRecDepth 100000
set_option maxHeartbeats 4000000
/-! forests: a wood as a plain datum -/
namespace Tw
open PySem PySem.Spec PyProof.Rows L2
/-- a wood: the first tree (its name, the wood in it), the others -/
inductive Fo where
  | nil
  | cons (n : Str) (ks r : Fo)
namespace Fo
def tops : Fo → List Str
  | nil => []
  | cons n _ r => n :: tops r
def nm : Fo → List Str
  | nil => []
  | cons n ks r => n :: (nm ks ++ nm r)
def dp : Fo → Nat
  | nil => 0
  | cons _ ks r => max (dp ks + 1) (dp r)
def data : Fo → List PyData
  | nil => []
  | cons n ks r => .tuple [.str n, .tuple (data ks)] :: data r
def plus (n : Str) : Str := ("+" : Str) ++ n
def minus (n : Str) : Str := ("-" : Str) ++ n
def row : Fo → List Str
  | nil => []
  | cons n ks r => plus n :: (row ks ++ minus n :: row r)
def ftake : Nat → Fo → Fo
  | 0, _ => nil
  | _ + 1, nil => nil
  | k + 1, cons n ks r => cons n ks (ftake k r)
def fdrop : Nat → Fo → Fo
  | 0, f => f
  | _ + 1, nil => nil
  | k + 1, cons _ _ r => fdrop k r
def insTop : Nat → Nat → Str → Fo → Fo
  | 0, tk, x, f => cons x (ftake tk f) (fdrop tk f)
  | _ + 1, tk, x, nil => cons x nil nil
  | k + 1, tk, x, cons n ks r => cons n ks (insTop k tk x r)
def insAt (over : Str) (k tk : Nat) (x : Str) : Fo → Fo
  | nil => nil
  | cons n ks r => if n = over then cons n (insTop k tk x ks) r else cons n (insAt over k tk x ks) (insAt over k tk x r)
def Rep (g : Str → List Str) : Fo → Prop
  | nil => True
  | cons n ks r => g n = tops ks ∧ Rep g ks ∧ Rep g r
/-- e tells how deep each node lies -/
def Dep (e : Str → Nat) : Nat → Fo → Prop
  | _, nil => True
  | l, cons n ks r => e n = l + 1 ∧ Dep e (l + 1) ks ∧ Dep e l r
theorem tops_take : ∀ (k : Nat) (f : Fo), tops (ftake k f) = (tops f).take k
  | 0, _ => by simp [ftake, tops]
  | _ + 1, nil => rfl
  | k + 1, cons n ks r => by simp [ftake, tops, tops_take k r]
theorem tops_drop : ∀ (k : Nat) (f : Fo), tops (fdrop k f) = (tops f).drop k
  | 0, _ => by simp [fdrop]
  | _ + 1, nil => rfl
  | k + 1, cons n ks r => by simp [fdrop, tops, tops_drop k r]
theorem tops_ins : ∀ (k tk : Nat) (x : Str) (f : Fo), k ≤ (tops f).length → tops (insTop k tk x f) = (tops f).take k ++ [x] ++ (tops f).drop (k + tk)
  | 0, tk, x, f, _ => by simp [insTop, tops, tops_drop]
  | k + 1, tk, x, nil, h => by simp [tops] at h
  | k + 1, tk, x, cons n ks r, h => by
    have h' : k ≤ (tops r).length := by simp [tops] at h; omega
    have e : k + 1 + tk = (k + tk) + 1 := by omega
    simp [insTop, tops, tops_ins k tk x r h', e]
theorem nm_split : ∀ (k : Nat) (f : Fo), nm f = nm (ftake k f) ++ nm (fdrop k f)
  | 0, _ => by simp [ftake, fdrop, nm]
  | _ + 1, nil => rfl
  | k + 1, cons n ks r => by simp [ftake, fdrop, nm, nm_split k r]
theorem nm_insTop : ∀ (k tk : Nat) (x : Str) (f : Fo), (nm (insTop k tk x f)).Perm (x :: nm f)
  | 0, tk, x, f => by simp [insTop, nm, ← nm_split]
  | _ + 1, tk, x, nil => by simp [insTop, nm]
  | k + 1, tk, x, cons n ks r => by
    simp only [insTop, nm]
    refine (List.Perm.cons n ((nm_insTop k tk x r).append_left (nm ks))).trans ?_
    refine (List.Perm.cons n List.perm_middle).trans ?_
    exact List.Perm.swap x n _
theorem nm_insAt (over : Str) (k tk : Nat) (x : Str) : ∀ (f : Fo), (nm f).Nodup → over ∈ nm f → (nm (insAt over k tk x f)).Perm (x :: nm f)
  | nil, _, h => by simp [nm] at h
  | cons n ks r, hd, h => by
    simp only [nm, List.nodup_cons, List.nodup_append] at hd
    obtain ⟨hn, d1, d2, dd⟩ := hd
    by_cases e : n = over
    · simp only [insAt, if_pos e, nm]
      refine (List.Perm.cons n ((nm_insTop k tk x ks).append_right (nm r))).trans ?_
      exact List.Perm.swap x n _
    · simp only [insAt, if_neg e, nm]
      have h2 : over ∈ nm ks ++ nm r := by
        rcases List.mem_cons.mp (show over ∈ n :: (nm ks ++ nm r) from h) with q | q
        · exact absurd q.symm e
        · exact q
      rcases List.mem_append.mp h2 with q | q
      · have hr : insAt over k tk x r = r := insAt_off over k tk x r fun z => dd over q over z rfl
        rw [hr]
        refine (List.Perm.cons n ((nm_insAt over k tk x ks d1 q).append_right (nm r))).trans ?_
        exact List.Perm.swap x n _
      · have hr : insAt over k tk x ks = ks := insAt_off over k tk x ks fun z => dd over z over q rfl
        rw [hr]
        refine (List.Perm.cons n ((nm_insAt over k tk x r d2 q).append_left (nm ks))).trans ?_
        refine (List.Perm.cons n List.perm_middle).trans ?_
        exact List.Perm.swap x n _
where
  insAt_off (over : Str) (k tk : Nat) (x : Str) : ∀ (f : Fo), over ∉ nm f → insAt over k tk x f = f
    | nil, _ => rfl
    | cons n ks r, h => by
      simp only [nm, List.mem_cons, List.mem_append, not_or] at h
      obtain ⟨h1, h2, h3⟩ := h
      simp only [insAt, if_neg (fun e => h1 e.symm : ¬ n = over), insAt_off over k tk x ks h2, insAt_off over k tk x r h3]
theorem insAt_no {over : Str} {k tk : Nat} {x : Str} {f : Fo} (h : over ∉ nm f) : insAt over k tk x f = f := nm_insAt.insAt_off over k tk x f h
theorem Rep.congr {g g' : Str → List Str} : ∀ {f : Fo}, Rep g f → (∀ n ∈ nm f, g' n = g n) → Rep g' f
  | nil, _, _ => trivial
  | cons n ks r, h, e => ⟨(e n (List.mem_cons_self ..)).trans h.1, Rep.congr h.2.1 fun m hm => e m (List.mem_cons_of_mem _ (List.mem_append_left _ hm)), Rep.congr h.2.2 fun m hm => e m (List.mem_cons_of_mem _ (List.mem_append_right _ hm))⟩
theorem Rep.take {g : Str → List Str} : ∀ {k : Nat} {f : Fo}, Rep g f → Rep g (ftake k f)
  | 0, _, _ => trivial
  | _ + 1, nil, _ => trivial
  | k + 1, cons n ks r, h => ⟨h.1, h.2.1, Rep.take h.2.2⟩
theorem Rep.drop {g : Str → List Str} : ∀ {k : Nat} {f : Fo}, Rep g f → Rep g (fdrop k f)
  | 0, _, h => h
  | _ + 1, nil, _ => trivial
  | k + 1, cons n ks r, h => Rep.drop (k := k) h.2.2
theorem Rep.insTop {g : Str → List Str} {x : Str} {tk : Nat} : ∀ {k : Nat} {f : Fo}, Rep g f → k ≤ (tops f).length → g x = ((tops f).drop k).take tk → Rep g (insTop k tk x f)
  | 0, f, h, _, e => ⟨by rw [tops_take]; simpa using e, h.take, h.drop⟩
  | _ + 1, nil, _, hk, _ => by simp [tops] at hk
  | k + 1, cons n ks r, h, hk, e => ⟨h.1, h.2.1, Rep.insTop h.2.2 (by simp [tops] at hk; omega) (by simpa [tops] using e)⟩
theorem Rep.insAt {g : Str → List Str} {over x : Str} {k tk : Nat} {l : List Str} : ∀ {f : Fo}, Rep g f → (nm f).Nodup → over ∈ nm f → x ∉ nm f → g over = l → k ≤ l.length →
    Rep (fun n => if n = x then (l.drop k).take tk else if n = over then l.take k ++ [x] ++ l.drop (k + tk) else g n) (insAt over k tk x f)
  | nil, _, _, h, _, _, _ => by simp [nm] at h
  | cons n ks r, h, hd, ho, hx, e, hk => by
    simp only [nm, List.nodup_cons, List.nodup_append] at hd
    obtain ⟨hn, d1, d2, dd⟩ := hd
    simp only [nm, List.mem_cons, List.mem_append, not_or] at hx hn
    obtain ⟨x1, x2, x3⟩ := hx
    have off : ∀ f : Fo, x ∉ nm f → over ∉ nm f → Rep g f → Rep (fun n => if n = x then (l.drop k).take tk else if n = over then l.take k ++ [x] ++ l.drop (k + tk) else g n) f := fun f hx ho hf =>
      hf.congr fun m hm => by
        show (if m = x then _ else if m = over then _ else g m) = g m
        rw [if_neg (fun z : m = x => hx (z ▸ hm)), if_neg (fun z : m = over => ho (z ▸ hm))]
    by_cases en : n = over
    · simp only [Fo.insAt, if_pos en]
      have et : tops ks = l := by rw [← h.1, en, e]
      have oks : over ∉ nm ks := fun z => hn.1 (en ▸ z)
      have orr : over ∉ nm r := fun z => hn.2 (en ▸ z)
      refine ⟨?_, ?_, off r x3 orr h.2.2⟩
      · show (if n = x then _ else if n = over then _ else g n) = _
        rw [if_neg (fun z => x1 z.symm), if_pos en, tops_ins _ _ _ _ (by rw [et]; exact hk), et]
      · refine Rep.insTop (off ks x2 oks h.2.1) (by rw [et]; exact hk) ?_
        show (if x = x then _ else _) = _
        rw [if_pos rfl, et]
    · simp only [Fo.insAt, if_neg en]
      have h2 : over ∈ nm ks ∨ over ∈ nm r := by
        rcases List.mem_cons.mp (show over ∈ n :: (nm ks ++ nm r) from ho) with q | q
        · exact absurd q.symm en
        · exact List.mem_append.mp q
      have top : ∀ ks', tops ks' = tops ks → (if n = x then (l.drop k).take tk else if n = over then l.take k ++ [x] ++ l.drop (k + tk) else g n) = tops ks' := fun ks' q => by
        rw [if_neg (fun z => x1 z.symm), if_neg en, q]; exact h.1
      rcases h2 with q | q
      · rw [insAt_no (f := r) fun z => dd over q over z rfl]
        refine ⟨top _ (tops_insAt ..), Rep.insAt h.2.1 d1 q x2 e hk, off r x3 (fun z => dd over q over z rfl) h.2.2⟩
      · rw [insAt_no (f := ks) fun z => dd over z over q rfl]
        exact ⟨top _ rfl, off ks x2 (fun z => dd over z over q rfl) h.2.1, Rep.insAt h.2.2 d2 q x3 e hk⟩
where
  tops_insAt (over : Str) (k tk : Nat) (x : Str) : ∀ f : Fo, tops (Fo.insAt over k tk x f) = tops f
    | nil => rfl
    | cons n ks r => by
      by_cases en : n = over
      · simp only [Fo.insAt, if_pos en, tops]
      · simp only [Fo.insAt, if_neg en, tops, tops_insAt over k tk x r]
theorem tops_insAt {over : Str} {k tk : Nat} {x : Str} {f : Fo} : tops (Fo.insAt over k tk x f) = tops f := Rep.insAt.tops_insAt over k tk x f
theorem tops_sub : ∀ {f : Fo} {n : Str}, n ∈ tops f → n ∈ nm f
  | nil, _, h => by simp [tops] at h
  | cons m ks r, n, h => by
    rcases List.mem_cons.mp (show n ∈ m :: tops r from h) with q | q
    · exact q ▸ List.mem_cons_self ..
    · exact List.mem_cons_of_mem _ (List.mem_append_right _ (tops_sub q))
theorem dp_le : ∀ f : Fo, dp f ≤ (nm f).length
  | nil => Nat.le_refl _
  | cons n ks r => by
    have h1 := dp_le ks
    have h2 := dp_le r
    simp only [dp, nm, List.length_cons, List.length_append]
    omega
/-! depth -/
theorem Dep.congr {e e' : Str → Nat} : ∀ {f : Fo} {l : Nat}, Dep e l f → (∀ n ∈ nm f, e' n = e n) → Dep e' l f
  | nil, _, _, _ => trivial
  | cons n ks r, l, h, q => ⟨(q n (List.mem_cons_self ..)).trans h.1, Dep.congr h.2.1 fun m hm => q m (List.mem_cons_of_mem _ (List.mem_append_left _ hm)), Dep.congr h.2.2 fun m hm => q m (List.mem_cons_of_mem _ (List.mem_append_right _ hm))⟩
theorem Dep.insTop {e : Str → Nat} {x : Str} : ∀ {k : Nat} {f : Fo} {l : Nat}, Dep e l f → e x = l + 1 → Dep e l (insTop k 0 x f)
  | 0, f, l, h, q => ⟨q, trivial, h⟩
  | _ + 1, nil, l, _, q => ⟨q, trivial, trivial⟩
  | k + 1, cons n ks r, l, h, q => ⟨h.1, h.2.1, Dep.insTop h.2.2 q⟩
theorem Dep.insAt {e : Str → Nat} {over x : Str} {k : Nat} : ∀ {f : Fo} {l : Nat}, Dep e l f → e x = e over + 1 → Dep e l (insAt over k 0 x f)
  | nil, _, _, _ => trivial
  | cons n ks r, l, h, q => by
    by_cases en : n = over
    · simp only [Fo.insAt, if_pos en]
      exact ⟨h.1, Dep.insTop h.2.1 (by rw [q, ← en, h.1]), h.2.2⟩
    · simp only [Fo.insAt, if_neg en]
      exact ⟨h.1, Dep.insAt h.2.1 q, Dep.insAt h.2.2 q⟩
theorem Dep.dp {e : Str → Nat} {t : Nat} : ∀ {f : Fo} {l : Nat}, Dep e l f → (∀ n ∈ nm f, e n ≤ t) → l ≤ t → l + Fo.dp f ≤ t
  | nil, l, _, _, h => h
  | cons n ks r, l, h, q, hl => by
    have h0 := q n (List.mem_cons_self ..)
    have h1 := Dep.dp h.2.1 (fun m hm => q m (List.mem_cons_of_mem _ (List.mem_append_left _ hm))) (by rw [← h.1]; exact h0)
    have h2 := Dep.dp h.2.2 (fun m hm => q m (List.mem_cons_of_mem _ (List.mem_append_right _ hm))) hl
    simp only [Fo.dp]
    omega
end Fo
/-! ### a wood in the heap -/
/-- these values are the trees of f -/
inductive Rp (K : PySem.W.Frag) (H : Hp) : List V → Fo → Prop where
  | nil : Rp K H [] .nil
  | cons {t k : Addr} {n : Str} {kvs vs : List V} {ks r : Fo} : SqT K H t [.str n, .ref k] → SqT K H k kvs → Rp K H kvs ks → Rp K H vs r → Rp K H (.ref t :: vs) (.cons n ks r)
/-- the tuple at a is the wood f -/
def WoodAt (K : PySem.W.Frag) (H : Hp) (a : Addr) (f : Fo) : Prop := ∃ vs, SqT K H a vs ∧ Rp K H vs f
/-- tuples stay -/
def Tk (K : PySem.W.Frag) (H H' : Hp) : Prop := ∀ a xs, SqT K H a xs → SqT K H' a xs
theorem Tk.of {K : PySem.W.Frag} {H H' : Hp} (h : ∀ a o, H a = some o → (∃ xs, o = .tup xs ∨ ∃ ob, o = .frz ob (.tup xs)) → H' a = some o) : Tk K H H' := fun a xs q => by
  rcases q with (q | ⟨ob, q⟩) | q
  · exact .inl (.inl (h a _ q ⟨xs, .inl rfl⟩))
  · exact .inl (.inr ⟨ob, h a _ q ⟨xs, .inr ⟨ob, rfl⟩⟩⟩)
  · exact .inr q
theorem Tk.kp {K : PySem.W.Frag} {H H' : Hp} (h : ∀ a o, H a = some o → H' a = some o) : Tk K H H' := Tk.of fun a o e _ => h a o e
theorem Tk.refl {K : PySem.W.Frag} {H : Hp} : Tk K H H := fun _ _ h => h
theorem Tk.trans {K : PySem.W.Frag} {H H1 H2 : Hp} (x : Tk K H H1) (y : Tk K H1 H2) : Tk K H H2 := fun a xs h => y a xs (x a xs h)
/-- all but a list or a dict is kept -/
theorem Tk.but {K : PySem.W.Frag} {H H' : Hp} {b : Addr} (hb : (∃ xs, H b = some (.lst xs)) ∨ (∃ xs, H b = some (.dK xs)) ∨ H b = none) (h : ∀ a o, H a = some o → a ≠ b → H' a = some o) : Tk K H H' := Tk.of fun a o e q => by
  refine h a o e fun z => ?_
  subst z
  obtain ⟨xs, q⟩ := q
  rcases hb with ⟨ys, hb⟩ | ⟨ys, hb⟩ | hb <;> rw [hb] at e <;> cases e <;> rcases q with q | ⟨_, q⟩ <;> cases q
theorem Rp.mono {K : PySem.W.Frag} {H H' : Hp} (t : Tk K H H') {vs : List V} {f : Fo} (h : Rp K H vs f) : Rp K H' vs f := by
  induction h with
  | nil => exact .nil
  | cons a b _ _ ih1 ih2 => exact .cons (t _ _ a) (t _ _ b) ih1 ih2
theorem WoodAt.mono {K : PySem.W.Frag} {H H' : Hp} (t : Tk K H H') {a : Addr} {f : Fo} (h : WoodAt K H a f) : WoodAt K H' a f := by
  obtain ⟨vs, h1, h2⟩ := h
  exact ⟨vs, t _ _ h1, h2.mono t⟩
theorem Rp.len {K : PySem.W.Frag} {H : Hp} {vs : List V} {f : Fo} (h : Rp K H vs f) : vs.length = f.tops.length := by
  induction h with
  | nil => rfl
  | cons _ _ _ _ _ ih => simp [Fo.tops, ih]
theorem Rp.dp {K : PySem.W.Frag} {H : Hp} {vs : List V} {f : Fo} (h : Rp K H vs f) : DpAll K H vs f.data := by
  induction h with
  | nil => exact .nil
  | cons a b _ _ ih1 ih2 => exact .cons (.tup a (.cons (.str _) (.cons (.tup b ih1) .nil))) ih2
theorem WoodAt.dp {K : PySem.W.Frag} {H : Hp} {a : Addr} {f : Fo} (h : WoodAt K H a f) : Dp K H (.ref a) (.tuple f.data) := by
  obtain ⟨vs, h1, h2⟩ := h
  exact .tup h1 h2.dp
end Tw
set_option Elab.async false
set_option linter.all false
set_option maxRecDepth 100000
set_option maxHeartbeats 4000000
/-! more rules over the hand layer -/
namespace Tw
open PySem PySem.Spec PyProof.Rows L2
/-- list(d.keys()) -/
def tListKeys (te : TE) : TE := fun σ H Q => te σ H fun x H1 => ∃ (d : Addr) (kvs : List (Key × V)), x = .ref d ∧ H1 d = some (.dK kvs) ∧ ∀ q, H1 q = none → Q (.ref q) (upd H1 q (.lst (kvs.map fun kv => kV kv.1)))
section
variable {X : Cx} {e : Expr} {te : TE} {p apos cpos pos : Pos}
theorem pe_listKeys (hm : X.mg "list" = none) (he : PE X e te) (hc : X.calm = true := by rfl) (hg : Gl X "list" := by rfl) (hv : bootBuiltins "list" = some (.type "list") := by decide +kernel) (hbase : attributeBase e "keys" X.env (eval e X.env) = eval e X.env := by rfl) (hline : (apos.endLine == cpos.line) = true := by rfl)
    (hs : starEach [.Call (.Attribute e "keys" apos) [] [] cpos] X.env = (false, eval (.Call (.Attribute e "keys" apos) [] [] cpos) X.env) :: starEach [] X.env := by rfl) :
    PE X (.Call (.Name "list" p) [.Call (.Attribute e "keys" apos) [] [] cpos] [] pos) (tListKeys te) := by
  refine ⟨fun pins s σ H Q I hq => ?_⟩
  refine wpAny_Call_Name_kw (ld_blt I hg hm hv ?_)
  refine PyProof.Rows.callWith_type1 ?_ hs rfl
  rw [hs]
  show wpAny _ _ (spliced ((false, eval (.Call (.Attribute e "keys" apos) [] [] cpos) X.env) :: backTo pos (starEach [] X.env))) _ _ s
  refine Calls.spliced_cons ?_
  refine wpAny_Call_method (T := "dict") (id := "dict.keys") hbase rfl hline F.plainAttrs_dict F.slot_dict_keys F.type_dict_keys (thn (he.run pins s σ H _ I hq) fun u s1 ⟨x, H1, I1, rx, d, kvs, ex, hd, q⟩ => ?_)
  subst ex
  obtain rfl : u = Value.ref d := rx
  obtain ⟨hz, hs0, vs, kv, hdo⟩ := I1.hok d _ hd
  obtain ⟨ep, hat⟩ := hdo.dictAt
  have lk : kvs.length = vs.length := Paired.length kv
  have I2 : Inv X pins σ H1 { s1 with heap := s1.heap.push { cls := .type "dict_keys", data := .fields #[.ref d] } } := I1.kept (t' := s1.toks) fun b ob q => Heap.get?_push_of_some _ q
  refine ⟨hdo.typeIs, hdo.mapOf.noDict, ?_⟩
  show wpAny _ _ (callWith cpos (.builtin "dict.keys") [.ref d] [] []) _ X.xe s1
  refine method_meetsIn F.slot_dict_keys F.entry_dict_keys rfl (PySem.evalArgs_none ⟨rfl, hdo.typeIs, F.args_dict_keys_1 _, _, PySem.W.kdl_meets_keys (mixKind X.prog X.w) d hs0, ⟨vs, hdo⟩, ?_⟩)
  refine Calls.spliced_nil ?_
  refine PySem.W.kdl_call (PySem.W.kdl_keys (r := s1.heap.objs.size) (knd := mixKind X.prog X.w) (kvs := vs) (ep := ep)) (I1.ok.hd hc) ⟨⟨_, Heap.get?_push_size _ rfl, rfl, rfl⟩, hat.push _⟩ (by omega) fun h' tk acc' c' hkeep hS hacc => ?_
  refine ⟨.ref _, upd H1 _ (.lst (kvs.map fun kv => kV kv.1)), I2.laid hkeep (Nat.le_refl _) (show ObjOk X.prog X.w _ _ _ (.lst (kvs.map fun kv => kV kv.1)) from ⟨?_, acc'.toList, c', ?_, ?_⟩), rfl, q _ (I2.hok.fresh (Nat.le_refl _))⟩
  · rw [List.length_map]; exact hz
  · have el : acc'.toList.length = acc'.size := by simp
    refine vals_of_at (by rw [List.length_map, el, hacc.1, lk]) fun j y w h1 h2 => ?_
    obtain ⟨k, y, hky, hi⟩ := hacc.2 j w (by rw [← Array.getElem?_toList]; exact h2)
    have e1 : (kvs.map (·.1))[j]? = some k := by
      rw [KV.keys kv, List.getElem?_map, hky] <;> rfl
    have e2 : (kvs.map fun kv => kV kv.1)[j]? = some (kV k) := by
      have e3 : (kvs.map fun kv => kV kv.1) = (kvs.map (·.1)).map kV := by rw [List.map_map] <;> rfl
      rw [e3, List.getElem?_map, e1] <;> rfl
    rw [e2] at h1
    cases h1
    exact keyIs_rel hi
  · rw [Array.toArray_toList]; exact hS
end
end Tw
namespace Tw
open PySem PySem.Spec PyProof.Rows HT L2
section
variable {prog : Program} {w : World} {A : Around} {E : Value → Shared → Prop} {s : Shared}
theorem places_rev (n : Nat) : Builtin.Slice.slicePlaces ((n : Int) - 1) (-1) (-1) = n := by
  unfold Builtin.Slice.slicePlaces
  have h1 : ¬ ((-1 : Int) > 0) := by omega
  have e : -(-1 : Int) = 1 := by omega
  simp only [h1, if_false, e, Int.ediv_one]
  split <;> omega
theorem sliceApplied_rev {sl : Addr} {vl vu vs : Value} {n : Nat} {Q : Int × Int × Nat → Shared → Prop} (hs : s.heap.IsSliceOf sl vl vu vs) (pl : IsPart vl none) (pu : IsPart vu none) (ps : IsPart vs (some (-1)))
    (h : Q ((n : Int) - 1, -1, n) s) : wpAny (model prog w) A (Builtin.Slice.sliceApplied (.ref sl) (pure (n : Int))) Q E s := by
  obtain ⟨os, hos, hcs, hds⟩ := id hs
  unfold Builtin.Slice.sliceApplied Builtin.Slice.sliceFields
  refine wpAny_bind (wpAny_bind (wpAny_field hos hds (x := vl) rfl (wpAny_bind (wpAny_field hos hds (x := vu) rfl (wpAny_bind (wpAny_field hos hds (x := vs) rfl (wpAny_pure ?_)))))))
  refine wpAny_bind (slicePart_ ps ?_)
  show wpAny _ _ (if ((-1 : Int) == 0) = true then _ else _) _ _ s
  rw [if_neg (by decide)]
  refine wpAny_bind (slicePart_ pl (wpAny_bind (slicePart_ pu (wpAny_bind (wpAny_pure ?_)))))
  show wpAny _ _ (pure ((n : Int) - 1, (-1 : Int), Builtin.Slice.slicePlaces ((n : Int) - 1) (-1) (-1))) _ _ s
  rw [places_rev]
  exact wpAny_pure h
theorem fm_congr {α β : Type} {f g : α → Option β} : ∀ {l : List α}, (∀ a ∈ l, f a = g a) → l.filterMap f = l.filterMap g
  | [], _ => rfl
  | a :: l, h => by
    rw [List.filterMap_cons, List.filterMap_cons, h a (List.mem_cons_self ..), fm_congr fun b hb => h b (List.mem_cons_of_mem _ hb)]
theorem pick_rev (xs : Array Value) : ((List.range xs.size).filterMap fun (m : Nat) => xs[(((xs.size : Int) - 1) + (m : Int) * (-1)).toNat]?).toArray = xs.toList.reverse.toArray := by
  have e : (List.range xs.size).filterMap (fun (m : Nat) => xs[(((xs.size : Int) - 1) + (m : Int) * (-1)).toNat]?) = ((List.range xs.size).map fun k => xs.size - 1 - k).filterMap (xs[·]?) := by
    rw [List.filterMap_map]
    refine fm_congr ?_
    intro m hm
    have hm := List.mem_range.mp hm
    have : (((xs.size : Int) - 1) + (m : Int) * (-1)).toNat = xs.size - 1 - m := by omega
    rw [this]; rfl
  rw [e, PySem.W.krv_range, List.filterMap_reverse, PySem.W.krv_all]
theorem getItem_tuple_rev {t sl : Addr} {items : Array Value} {vl vu vs : Value} {Q : Value → Shared → Prop} (ht : IsTup s.heap t items) (hs : s.heap.IsSliceOf sl vl vu vs) (pl : IsPart vl none) (pu : IsPart vu none) (ps : IsPart vs (some (-1)))
    (h : Q (.ref s.heap.objs.size) { s with heap := s.heap.push { cls := .type "tuple", data := .seq items.toList.reverse.toArray } })
    (hsz : items.size ≤ sizeLine) : wpAny (model prog w) A (getItem (.ref t) (.ref sl)) Q E s := by
  have htake : sizeOk (.seq items.toList.reverse.toArray) := by
    show items.toList.reverse.toArray.size ≤ sizeLine
    rw [List.size_toArray, List.length_reverse, Array.length_toList]
    exact hsz
  obtain ⟨os, hos, hcs, hds⟩ := id hs
  have hTs : s.TypeIs (.ref sl) "slice" := ⟨os, hos, hcs⟩
  unfold getItem
  try with_reducible refine wpAny_holding ?_
  first | refine wpAny_bind (wpAny_pure ?_) | skip
  refine wpAny_bind (wpAny_sequenceKey ht.typeIs (by decide) ?_)
  refine wpAny_bind (wpAny_callSpecial?_slot (name := Str.ofString "__getitem__") ht.typeIs PyProof.Rows.slot_tuple_getitem
    (wpAny_call_entry PyProof.Rows.slot_tuple_getitem ht.typeIs entry_tuple_getitem ?_ (args_tuple_getitem _ _)))
  show wpAny _ _ (Builtin.Tuple.tupleItemsOf (.ref t) >>= _) _ _ s
  refine wpAny_bind (tupleItemsOf_ ht ?_)
  refine wpAny_bind (wpAny_typeOf hTs ?_)
  rw [if_pos (by decide)]
  refine wpAny_bind (sliceApplied_rev hs pl pu ps ?_)
  have hno : ¬ ((((items.size : Int) - 1) == 0 && (-1 : Int) == 1 && items.size == items.size) = true) := by
    intro q
    rw [Bool.and_eq_true, Bool.and_eq_true] at q
    exact absurd q.1.2 (by decide)
  show wpAny _ _ (if (((items.size : Int) - 1) == 0 && (-1 : Int) == 1 && items.size == items.size) = true then _ else _) _ _ s
  rw [if_neg hno, pick_rev]
  first
    | exact wpAny_bind (m := Builtin.Tuple.tupleExact _) (wpAny_newObj_type (wpAny_pure ⟨_, rfl, wpAny_pure h⟩) htake)
    | exact wpAny_bind (m := Builtin.Tuple.tupleExact _) (wpAny_newObj_type (wpAny_bind (wpAny_pure (wpAny_pure ⟨_, rfl, wpAny_pure h⟩))) htake)
    | exact wpAny_bind (wpAny_bind (m := Builtin.Tuple.tupleExact _) (wpAny_newObj_type (wpAny_pure (wpAny_pure ⟨_, rfl, wpAny_pure h⟩)) htake))
    | exact wpAny_bind (wpAny_bind (m := Builtin.Tuple.tupleExact _) (wpAny_newObj_type (wpAny_pure ⟨_, rfl, wpAny_pure h⟩) htake))
end
/-- t[::-1], t a tuple -/
def tRevT (K : PySem.W.Frag) (te : TE) : TE := fun σ H Q => te σ H fun x H1 => ∃ a xs, x = .ref a ∧ SqT K H1 a xs ∧ ∀ p, H1 p = none → Q (.ref p) (upd H1 p (.tup xs.reverse))
section
variable {X : Cx}
theorem pe_revT {e : Expr} {te : TE} {k : Nat} {p1 p2 p3 pos : Pos} (he : PE X e te) : PE X (.Subscript e (.Slice none none (some (.UnaryOp .USub (.Constant (.int 1) k p1) p2)) p3) pos) (tRevT X.K te) := by
  refine ⟨fun pins s σ H Q I h => ?_⟩
  refine Subscript_ (thn (he.run pins s σ H _ I h) fun v s1 ⟨x, H1, I1, r1, q1⟩ => ?_)
  obtain ⟨a, xs, ex, hx, q⟩ := q1
  subst ex
  cases r1
  have hst : PO X (some (.UnaryOp .USub (.Constant (.int 1) k p1) p2)) (tPart (tUn (rU fun i => .int (-i)) (tC (.int 1)))) := po_some (pe_un un_neg pe_int)
  refine wpAny_Slice (thn (po_none.run pins s1 σ H1 (fun o H2 => o = none ∧ H2 = H1) I1 ⟨rfl, rfl⟩) fun vl s2 ⟨l, H2, I2, pl, el, e2⟩ => ?_)
  subst el e2
  refine thn (po_none.run pins s2 σ H2 (fun o H3 => o = none ∧ H3 = H2) I2 ⟨rfl, rfl⟩) fun vu s3 ⟨u, H3, I3, pu, eu, e3⟩ => ?_
  subst eu e3
  refine thn (hst.run pins s3 σ H3 (fun o H4 => o = some (-1) ∧ H4 = H3) I3 ⟨1, rfl, -1, rfl, rfl, rfl⟩) fun vs s4 ⟨o, H4, I4, ps, eo, e4⟩ => ?_
  subst eo e4
  have I5 : Inv X pins σ H4 { s4 with heap := s4.heap.push { cls := .type "slice", data := .fields #[vl, vu, vs] } } := I4.kept (t' := s4.toks) fun b ob q => Heap.get?_push_of_some _ q
  obtain ⟨its, r, ht, hz⟩ := I5.tuple hx
  have hlen := r.length
  show wpAny (model X.prog X.w) X.A (subscriptTail e (.Slice none none (some (.UnaryOp .USub (.Constant (.int 1) k p1) p2)) p3) (.ref a) (.ref s4.heap.objs.size)) (EP X pins σ Q) X.xe { s4 with heap := s4.heap.push { cls := .type "slice", data := .fields #[vl, vu, vs] } }
  refine tail_any (ops := [.ref a, .ref s4.heap.objs.size]) ht.typeIs (PyProof.Rows.slot_tuple_getitem.lookup) ?_ (by with_unfolding_all rfl)
  refine getItem_tuple_rev ht (Heap.IsSliceOf.new _ vl vu vs) pl pu ps ?_ (by rw [List.size_toArray]; omega)
  refine ⟨.ref _, _, I5.laid (t' := s4.toks) (o := .tup xs.reverse) (fun b ob q => Heap.get?_push_of_some _ q) (Nat.le_refl _) ?_, rfl, q _ (I5.hok.fresh (Nat.le_refl _))⟩
  exact ⟨by rw [List.length_reverse]; exact hz, _, r.reverse, ⟨_, Heap.get?_push_size _ rfl, rfl, _, rfl⟩⟩
end
end Tw
set_option Elab.async false
set_option linter.all false
set_option maxRecDepth 100000
set_option maxHeartbeats 4000000
namespace Tw
open PySem PySem.Spec PyProof.Rows L2 TL
section
variable {σ : L2.St} {H : Hp} {Q : VK} {td ty tv te : TE} {D : Ends}
theorem o_dget : tDGet td ty σ H Q = td σ H fun x H1 => ty σ H1 fun y H2 => ∃ a v, x = .ref a ∧ DGet H2 a y (some v) ∧ Q v H2 := rfl
theorem o_dput : sDPut td ty tv D σ H = tv σ H fun v H1 => td σ H1 fun x H2 => ty σ H2 fun y H3 => ∃ a H4, x = .ref a ∧ DPut H3 a y v H4 ∧ D.nx σ H4 := rfl
theorem o_din : tDIn ty td σ H Q = ty σ H fun y H1 => td σ H1 fun x H2 => ∃ a o, x = .ref a ∧ DGet H2 a y o ∧ Q (.bl o.isSome) H2 := rfl
theorem o_dnotin : tDNotIn ty td σ H Q = ty σ H fun y H1 => td σ H1 fun x H2 => ∃ a o, x = .ref a ∧ DGet H2 a y o ∧ Q (.bl (!o.isSome)) H2 := rfl
theorem o_listKeys : tListKeys te σ H Q = te σ H fun x H1 => ∃ (d : Addr) (kvs : List (Key × V)), x = .ref d ∧ H1 d = some (.dK kvs) ∧ ∀ q, H1 q = none → Q (.ref q) (upd H1 q (.lst (kvs.map fun kv => kV kv.1))) := rfl
theorem o_disp {trs : List (TE × TE)} : tDisp trs σ H Q = ∀ p, H p = none → tPairs trs σ (upd H p (.dK [])) fun ps H2 => H2 p = some (.dK []) ∧ ∃ kvs : List (Key × V), ps = kvs.map (fun kv => (kV kv.1, kv.2)) ∧ kvs.length ≤ 15 ∧ Q (.ref p) (upd H2 p (.dK (mergeK [] kvs))) := rfl
theorem o_dnew : tDNewK σ H Q = ∀ p, H p = none → Q (.ref p) (upd H p (.dK [])) := rfl
theorem o_pairs0 {Q : List (V × V) → Hp → Prop} : tPairs [] σ H Q = Q [] H := rfl
theorem o_pairs1 {Q : List (V × V) → Hp → Prop} {tk tv : TE} {r : List (TE × TE)} : tPairs ((tk, tv) :: r) σ H Q = tk σ H fun x H1 => tv σ H1 fun y H2 => tPairs r σ H2 fun ps H3 => Q ((x, y) :: ps) H3 := rfl
end
local macro_rules | `(tactic| walk_at "rd") => `(tactic| try simp only [o_op, o_un, o_var, o_c, o_cb, o_call, o_cons, o_nil, o_tup, o_lst, o_I0, o_I, o_int1, o_intb, o_abs, o_test, o_b, o_not, o_and, o_or, o_andV, o_orV, o_notV, o_ifE, o_isN, o_notN, o_eq, o_ne, o_seq, o_next, o_asg, o_name, o_sub, o_par, o_par3, o_drop, o_ret, o_retN, o_ifS, o_sl, o_noPart, o_part, o_bm, o_bm0, o_m0, o_m1, o_dget, o_dput, o_din, o_dnotin, o_listKeys, e_bl, e_int, e_str, e_some, e_two, e_three, o_for, o_lc, o_iList, o_iTup, o_iRng1, e_int1, e_ref, o_yes, o_wipe0, o_wipe1, o_disp, o_dnew, o_pairs0, o_pairs1, true_and, if_pos, List.getElem?_cons_zero, List.getElem?_cons_succ, List.set_cons_zero, List.set_cons_succ, List.append_nil])
/-! ### dicts by names -/
abbrev kvs (ks : List Str) (F : Str → V) : List (Key × V) := ks.map fun n => ((Sum.inr n : Key), F n)
theorem valV_kvs (F : Str → V) (n : Str) : ∀ ks : List Str, valV (kvs ks F) (Sum.inr n) = if n ∈ ks then some (F n) else none
  | [] => rfl
  | m :: ks => by
    by_cases e : m = n
    · subst e
      rw [show kvs (m :: ks) F = ((Sum.inr m : Key), F m) :: kvs ks F from rfl, valV_pos rfl, if_pos (List.mem_cons_self ..)]
    · rw [show kvs (m :: ks) F = ((Sum.inr m : Key), F m) :: kvs ks F from rfl, valV_neg (fun z => e (Sum.inr.inj z)), valV_kvs F n ks]
      have h : (n ∈ m :: ks) ↔ (n ∈ ks) := ⟨fun z => (List.mem_cons.mp z).resolve_left fun y => e y.symm, fun z => List.mem_cons_of_mem _ z⟩
      simp only [h]
theorem put_old (F : Str → V) (n : Str) (v : V) (ks : List Str) (h : n ∈ ks) : putK (kvs ks F) (Sum.inr n) v = kvs ks fun m => if m = n then v else F m := by
  unfold putK
  have h2 : ((kvs ks F).any fun kv => decide (kv.1 = Sum.inr n)) = true := by
    rw [valV_any, valV_kvs, if_pos h]; rfl
  rw [if_pos h2]
  simp only [kvs, List.map_map]
  refine List.map_congr_left fun m _ => ?_
  show (if (Sum.inr m : Key) = Sum.inr n then _ else _) = _
  by_cases e : m = n
  · rw [if_pos (by rw [e]), if_pos e]
  · rw [if_neg (fun z => e (Sum.inr.inj z)), if_neg e]
theorem put_new (F : Str → V) (n : Str) (v : V) (ks : List Str) (h : n ∉ ks) : putK (kvs ks F) (Sum.inr n) v = kvs (ks ++ [n]) fun m => if m = n then v else F m := by
  rw [putK_new v (by rw [valV_kvs, if_neg h])]
  simp only [kvs, List.map_append, List.map_cons, List.map_nil, if_pos]
  congr 1
  refine List.map_congr_left fun m hm => ?_
  rw [if_neg (fun z : m = n => h (z ▸ hm))]
/-- at d a dict from names to lists of names, each list at a place of its own -/
structure Kids (H : Hp) (d : Addr) (ks : List Str) (g : Str → List Str) (at_ : Str → Addr) : Prop where
  dict : H d = some (.dK (kvs ks fun n => .ref (at_ n)))
  lists : ∀ n ∈ ks, H (at_ n) = some (.lst ((g n).map V.str))
  inj : ∀ n ∈ ks, ∀ m ∈ ks, at_ n = at_ m → n = m
  nd : ks.Nodup
section
variable {H H' : Hp} {d : Addr} {ks : List Str} {g : Str → List Str} {at_ : Str → Addr}
theorem Kids.kp (k : Kids H d ks g at_) (h : Kp H H') : Kids H' d ks g at_ := ⟨h _ _ k.dict, fun n hn => h _ _ (k.lists n hn), k.inj, k.nd⟩
theorem Kids.keep {a : Addr} (k : Kids H d ks g at_) (h : ∀ b o, H b = some o → b ≠ a → H' b = some o) (ha : (∃ x y z : Int, H a = some (.lst [.int x, .int y, .int z]))) : Kids H' d ks g at_ := by
  obtain ⟨x, y, z, ha⟩ := ha
  refine ⟨h _ _ k.dict fun e => ?_, fun n hn => h _ _ (k.lists n hn) fun e => ?_, k.inj, k.nd⟩
  · have := k.dict
    rw [e, ha] at this; cases this
  · have h2 := k.lists n hn
    rw [e, ha] at h2
    have h3 : [V.int x, V.int y, V.int z] = (g n).map V.str := HO.lst.inj (Option.some.inj h2)
    cases hg : g n with
    | nil => rw [hg] at h3; cases h3
    | cons s r => rw [hg] at h3; cases h3
theorem Kids.get (k : Kids H d ks g at_) {n : Str} (hn : n ∈ ks) : DGet H d (.str n) (some (.ref (at_ n))) := by
  have h := DGet.k (k := (Sum.inr n : Key)) k.dict
  rw [valV_kvs, if_pos hn] at h
  exact h
/-- d[x] = a new list, d[over] = a new list -/
theorem Kids.put2 (k : Kids H d ks g at_) {x over : Str} {p q : Addr} {l l2 : List Str} (hx : x ∉ ks) (ho : over ∈ ks) (hp : H p = none) (hq : H q = none) (hpq : p ≠ q) {H1 : Hp}
    (h : ∀ b o, H b = some o → b ≠ d → H1 b = some o) (h1 : H1 p = some (.lst (l.map V.str))) (h2 : H1 q = some (.lst (l2.map V.str))) (hd : H1 d = some (.dK (kvs (ks ++ [x]) fun n => .ref (if n = over then q else if n = x then p else at_ n)))) :
    Kids H1 d (ks ++ [x]) (fun n => if n = x then l else if n = over then l2 else g n) (fun n => if n = over then q else if n = x then p else at_ n) := by
  have hxo : x ≠ over := fun e => hx (e ▸ ho)
  have no : ∀ n ∈ ks, at_ n ≠ p ∧ at_ n ≠ q := fun n hn => ⟨fun e => (by have := k.lists n hn; rw [e, hp] at this; cases this), fun e => (by have := k.lists n hn; rw [e, hq] at this; cases this)⟩
  have hdn : ∀ n ∈ ks, at_ n ≠ d := fun n hn e => by have := k.lists n hn; rw [e, k.dict] at this; cases this
  refine ⟨hd, fun n hn => ?_, fun n hn m hm e => ?_, nodup_snoc k.nd hx⟩
  · show H1 (if n = over then q else if n = x then p else at_ n) = some (.lst ((if n = x then l else if n = over then l2 else g n).map V.str))
    by_cases e1 : n = over
    · have e2 : ¬ n = x := fun z => hxo (z.symm.trans e1)
      rw [if_pos e1, if_neg e2, if_pos e1]; exact h2
    · by_cases e2 : n = x
      · rw [if_neg e1, if_pos e2, if_pos e2]; exact h1
      · rw [if_neg e1, if_neg e2, if_neg e2, if_neg e1]
        have hn' : n ∈ ks := by
          rcases List.mem_append.mp hn with z | z
          · exact z
          · exact absurd (List.mem_singleton.mp z) e2
        exact h _ _ (k.lists n hn') (hdn n hn')
  · have e : (if n = over then q else if n = x then p else at_ n) = (if m = over then q else if m = x then p else at_ m) := e
    have old : ∀ n ∈ ks ++ [x], n ≠ x → n ∈ ks := fun n hn z => by
      rcases List.mem_append.mp hn with y | y
      · exact y
      · exact absurd (List.mem_singleton.mp y) z
    by_cases a1 : n = over
    · rw [if_pos a1] at e
      by_cases b1 : m = over
      · rw [a1, b1]
      · rw [if_neg b1] at e
        by_cases b2 : m = x
        · rw [if_pos b2] at e; exact absurd e.symm hpq
        · rw [if_neg b2] at e; exact absurd e.symm (no m (old m hm b2)).2
    · rw [if_neg a1] at e
      by_cases a2 : n = x
      · rw [if_pos a2] at e
        by_cases b1 : m = over
        · rw [if_pos b1] at e; exact absurd e hpq
        · rw [if_neg b1] at e
          by_cases b2 : m = x
          · rw [a2, b2]
          · rw [if_neg b2] at e; exact absurd e.symm (no m (old m hm b2)).1
      · rw [if_neg a2] at e
        by_cases b1 : m = over
        · rw [if_pos b1] at e; exact absurd e (no n (old n hn a2)).2
        · rw [if_neg b1] at e
          by_cases b2 : m = x
          · rw [if_pos b2] at e; exact absurd e (no n (old n hn a2)).1
          · rw [if_neg b2] at e; exact k.inj n (old n hn a2) m (old m hm b2) e
end
def t_l_wood_of (K : PySem.W.Frag) (rec : Sp) : TS :=
  (tRet (tCB (rTupleOf K) (tCons (tLc (iList K (tDGet (tVar 0) (tVar 1))) (gName 2) tYes (tTup (tCons (tVar 2) (tCons (tCall rec [] E0 (tCons (tVar 0) (tCons (tVar 2) tNil))) tNil))) [2]) tNil)))
/-- the promise of wood_of, by the depth of the wood -/
def spW (K : PySem.W.Frag) : Nat → Sp
  | 0 => fun _ _ _ _ => False
  | m + 1 => fun vs H Q _ => ∃ (d : Addr) (n : Str) (ks : List Str) (g : Str → List Str) (at_ : Str → Addr) (f : Fo), vs = [.ref d, .str n] ∧ Kids H d ks g at_ ∧ n ∈ ks ∧ g n = f.tops ∧ f.Rep g ∧ (∀ x ∈ f.nm, x ∈ ks) ∧ f.dp ≤ m ∧ (Fo.nm f).length ≤ 100000 ∧
    ∀ (a : Addr) (H' : Hp), Kp H H' → WoodAt K H' a f → Q (.ref a) H'
theorem len_spW {K : PySem.W.Frag} {m : Nat} (vs : List V) (H : Hp) (Q : VK) (E : XK) (h : spW K m vs H Q E) : vs.length = 2 := by
  cases m with
  | zero => exact False.elim h
  | succ m =>
    obtain ⟨_, _, _, _, _, _, rfl, _⟩ := h
    rfl
theorem Rp.snoc {K : PySem.W.Frag} {H : Hp} {t k : Addr} {n : Str} {kvs : List V} {ks r : Fo} (h1 : SqT K H t [.str n, .ref k]) (h2 : SqT K H k kvs) (h3 : Rp K H kvs ks) : ∀ {i : Nat} {f : Fo} {vs : List V}, Rp K H vs (f.ftake i) → f.fdrop i = .cons n ks r → Rp K H (vs ++ [.ref t]) (f.ftake (i + 1))
  | 0, f, vs, h, e => by
    cases h
    have e2 : f = .cons n ks r := e
    subst e2
    exact .cons h1 h2 h3 .nil
  | i + 1, .nil, _, _, e => by cases e
  | i + 1, .cons m ks' r', vs, h, e => by
    cases h with
    | cons a b c d => exact .cons a b c (Rp.snoc h1 h2 h3 d e)
theorem ftake_all : ∀ (f : Fo), f.ftake f.tops.length = f
  | .nil => rfl
  | .cons n ks r => by simp only [Fo.tops, List.length_cons, Fo.ftake, ftake_all r]
theorem fdrop_at : ∀ {i : Nat} {f : Fo} {n : Str}, f.tops[i]? = some n → ∃ ks r, f.fdrop i = .cons n ks r
  | _, .nil, _, h => by simp [Fo.tops] at h
  | 0, .cons m ks r, n, h => by
    have e : m = n := by simpa [Fo.tops] using h
    subst e; exact ⟨ks, r, rfl⟩
  | i + 1, .cons m ks r, n, h => fdrop_at (i := i) (f := r) (by simpa [Fo.tops] using h)
theorem drop_facts {g : Str → List Str} : ∀ {i : Nat} {f : Fo} {n : Str} {ks r : Fo}, f.fdrop i = .cons n ks r → f.Rep g → g n = ks.tops ∧ ks.Rep g ∧ ks.dp + 1 ≤ f.dp ∧ (∀ x ∈ ks.nm, x ∈ f.nm) ∧ n ∈ f.nm ∧ ks.nm.length ≤ f.nm.length
  | 0, f, n, ks, r, e, h => by
    have e2 : f = .cons n ks r := e
    subst e2
    refine ⟨h.1, h.2.1, by simp only [Fo.dp]; omega, fun x hx => List.mem_cons_of_mem _ (List.mem_append_left _ hx), List.mem_cons_self .., by simp only [Fo.nm, List.length_cons, List.length_append]; omega⟩
  | i + 1, .nil, _, _, _, e, _ => by cases e
  | i + 1, .cons m ks' r', n, ks, r, e, h => by
    obtain ⟨h1, h2, h3, h4, h5, h6⟩ := drop_facts (i := i) e h.2.2
    refine ⟨h1, h2, by simp only [Fo.dp]; omega, fun x hx => List.mem_cons_of_mem _ (List.mem_append_right _ (h4 x hx)), List.mem_cons_of_mem _ (List.mem_append_right _ h5), by simp only [Fo.nm, List.length_cons, List.length_append]; omega⟩
theorem tops_len (f : Fo) : f.tops.length ≤ f.nm.length := by
  induction f with
  | nil => exact Nat.le_refl _
  | cons n ks r _ ih => simp only [Fo.tops, Fo.nm, List.length_cons, List.length_append]; omega
theorem pure_l_wood_of {K : PySem.W.Frag} {m : Nat} (vs : List V) (H : Hp) (Q : VK) (E : XK) (h : spW K (m + 1) vs H Q E) : t_l_wood_of K (spW K m) { nx := fun _ H' => Q .non H', rt := Q } (startN 3 vs) H := by
  obtain ⟨d, n, ks, g, at_, f, rfl, hk, hn, hg, hr, hin, hdp, hsz, q⟩ := h
  show t_l_wood_of K _ _ [some (.ref d), some (.str n), none] H
  unfold t_l_wood_of
  walk_at "rd"
  refine ⟨d, _, rfl, hk.get hn, ?_⟩
  walk_at "rd"
  have hl : SqL K H (at_ n) (f.tops.map V.str) := by rw [← hg]; exact SqL.of (hk.lists n hn)
  refine ⟨⟨_, hl⟩, ?_⟩
  have htl := tops_len f
  refine lb_walk (n := (f.tops.map V.str).length) walk_list (fun D i H2 => H D = none ∧ Kp H H2 ∧ ∃ vs, H2 D = some (.lst vs) ∧ Rp K H2 vs (f.ftake i)) ?_ ?_ ?_ ?_
  · intro D hD
    exact ⟨hD, (show Kp H H from fun _ _ h => h).new hD, [], upd_same, .nil⟩
  · rintro D i H2 hi ⟨hD, kp, _⟩
    exact SqL.of (kp _ _ (by have := hk.lists n hn; rw [hg] at this; exact this))
  · rintro D i x H2 H3 hi ⟨hD, kp, vs, h2, rp⟩ ⟨rfl, hx⟩
    obtain ⟨kid, hkid, rfl⟩ : ∃ kid, f.tops[i]? = some kid ∧ x = .str kid := by
      rw [List.getElem?_map] at hx
      cases e : f.tops[i]? with
      | none => rw [e] at hx; cases hx
      | some kid => rw [e] at hx; exact ⟨kid, rfl, (Option.some.inj hx).symm⟩
    obtain ⟨sub, r, hf⟩ := fdrop_at hkid
    obtain ⟨f1, f2, f3, f4, f5, f6⟩ := drop_facts hf hr
    walk_at "rd"
    cases m with
    | zero => omega
    | succ m =>
      refine ⟨d, kid, ks, g, at_, sub, rfl, hk.kp kp, hin _ f5, f1, f2, fun x hx => hin x (f4 x hx), by omega, by omega, fun a H4 k4 hw => ?_⟩
      obtain ⟨ws, w1, w2⟩ := hw
      refine ⟨by show 2 ≤ sizeLine; decide, fun t ht => ?_⟩
      have hD4 := k4 _ _ h2
      have htD : t ≠ D := fun e => by rw [e, hD4] at ht; cases ht
      have tk4 : Tk K H3 H4 := Tk.kp k4
      have tk5 : Tk K H4 (upd H4 t (.tup [.str kid, .ref a])) := Tk.kp ((show Kp H4 H4 from fun _ _ h => h).new ht)
      have tk6 : Tk K (upd H4 t (.tup [.str kid, .ref a])) (upd (upd H4 t (.tup [.str kid, .ref a])) D (.lst (vs ++ [.ref t]))) := Tk.but (b := D) (.inl ⟨vs, by rw [upd_ne htD.symm]; exact hD4⟩) fun b o e nb => by rw [upd_ne nb]; exact e
      refine ⟨vs, by rw [upd_ne htD.symm]; exact hD4, ?_, hD, ?_, vs ++ [.ref t], upd_same, ?_⟩
      · rw [rp.len, Fo.tops_take, List.length_take]
        have : i < f.tops.length := by simpa using hi
        have := sizeLine_eq; omega
      · intro b o e
        have e3 : b ≠ D := ne_of_none e hD
        rw [upd_ne e3]
        exact (show Kp H H4 from fun b o e => k4 b o (kp b o e)).new ht b o e
      · exact Rp.snoc (tk6 _ _ (SqT.of upd_same)) ((tk5.trans tk6) _ _ w1) (w2.mono (tk5.trans tk6)) (rp.mono (tk4.trans (tk5.trans tk6))) hf
  · rintro D H2 hD ⟨_, kp, vs, h2, rp⟩
    refine ⟨D, vs, rfl, .inl ⟨SqL.of h2, fun a ha => ?_⟩⟩
    rw [List.length_map, ftake_all] at rp
    exact q a _ (kp.new ha) ⟨vs, SqT.of upd_same, rp.mono (Tk.kp ((show Kp H2 H2 from fun _ _ h => h).new ha))⟩
def t_l_wood_b1 (K : PySem.W.Frag) : TS :=
  (tSeq (tAsg (tOp (rIxL K) (tListKeys (tVar 2)) (tCall sp_l_draw [] E0 (tCons (tVar 0) (tCons (tCB rLenD (tCons (tVar 2) tNil)) tNil)))) (gName 4))
  (tSeq (tAsg (tCall sp_l_draw [] E0 (tCons (tVar 0) (tCons (tOp (rI0 fun i j => .int (i + j)) (tCB (rLenSeq K) (tCons (tDGet (tVar 2) (tVar 4)) tNil)) (tC (.int 1))) tNil))) (gName 5))
  (tSeq (tAsg (tDGet (tVar 2) (tVar 4)) (gName 6))
  (tSeq (tAsg (tOp (rI CMul fun i j => .int (i * j)) (tOp (rI CDiv fun i j => .int (i / j)) (tCall sp_l_draw [] E0 (tCons (tVar 0) (tCons (tC (.int 4)) tNil))) (tC (.int 3))) (tCall sp_l_draw [] E0 (tCons (tVar 0) (tCons (tOp (rI0 fun i j => .int (i + j)) (tOp (rI0 fun i j => .int (i - j)) (tCB (rLenSeq K) (tCons (tVar 6) tNil)) (tVar 5)) (tC (.int 1))) tNil)))) (gName 7))
  (tSeq (sDPut (tVar 2) (tVar 3) (L2.tSl (rSlL K) (tVar 6) (tPart (tVar 5)) (tPart (tOp (rI0 fun i j => .int (i + j)) (tVar 5) (tVar 7)))))
  (sDPut (tVar 2) (tVar 4) (tOp rCat (tOp rCat (L2.tSl (rSlL K) (tVar 6) tNoPart (tPart (tVar 5))) (tLst (tCons (tVar 3) tNil))) (L2.tSl (rSlL K) (tVar 6) (tPart (tOp (rI0 fun i j => .int (i + j)) (tVar 5) (tVar 7))) tNoPart))))))))
def t_l_wood (K : PySem.W.Frag) : TS :=
  (tSeq (tAsg (tDisp [((tC (.str "")), (tLst tNil))]) (gName 2))
  (tSeq (tFor (iList K (tVar 1)) (gName 3)
  (t_l_wood_b1 K))
  (tRet (tCall (spW K 121) [] E0 (tCons (tVar 2) (tCons (tC (.str "")) tNil))))))

theorem gen_new {H H' : Hp} {p : Addr} {o : HO} (hp : H p = none) (h : upd H p o = H') : Kp H H' ∧ H' p = some o := by
  subst h
  exact ⟨fun b u e => by rw [upd_ne (ne_of_none e hp)]; exact e, upd_same⟩
theorem gen_chg {H H' : Hp} {p : Addr} {o : HO} (h : upd H p o = H') : (∀ b u, H b = some u → b ≠ p → H' b = some u) ∧ H' p = some o := by
  subst h
  exact ⟨fun b u e n => by rw [upd_ne n]; exact e, upd_same⟩
/-! ### wood -/
theorem keys_kvs (F : Str → V) (ks : List Str) : (kvs ks F).map (fun kv => kV kv.1) = ks.map V.str := by
  simp only [kvs, List.map_map]; rfl
theorem kvs_len (F : Str → V) (ks : List Str) : (kvs ks F).length = ks.length := List.length_map ..
/-- all of H stands in H' but for the deck at a, the dict at d, which H does not know -/
theorem Dk.off {a d : Addr} {H H1 H2 : Hp} (k : Dk a H H1) (hd : H d = none) (hda : d ≠ a) (h : ∀ b o, H1 b = some o → b ≠ a → b ≠ d → H2 b = some o) (hk : DeckAt H2 a) : Dk a H H2 :=
  ⟨fun b o e nb => h b o (k.keep b o e nb) nb (ne_of_none e hd), hk⟩
theorem deck_ne {H : Hp} {a b : Addr} (h : DeckAt H a) (hb : H b = none) : b ≠ a := fun e => by
  obtain ⟨g, m, c, e2⟩ := h
  rw [e, e2] at hb; cases hb
theorem cutV_str (l : List Str) (lo hi : Option Int) : cutV (l.map V.str) lo hi = ((l.drop (HT.sIx l.length 0 lo)).take (HT.sIx l.length l.length hi - HT.sIx l.length 0 lo)).map V.str := by
  unfold cutV
  simp only [List.length_map, List.map_take, List.map_drop]
structure Woody (K : PySem.W.Frag) (H : Hp) (d : Addr) (ks : List Str) (g : Str → List Str) (at_ : Str → Addr) (f : Fo) : Prop where
  kids : Kids H d (("" : Str) :: ks) g at_
  top : g ("" : Str) = f.tops
  rep : f.Rep g
  perm : f.nm.Perm ks
  named : ("" : Str) ∉ ks
theorem Woody.deck {K : PySem.W.Frag} {H H' : Hp} {a d : Addr} {ks : List Str} {g : Str → List Str} {at_ : Str → Addr} {f : Fo} (w : Woody K H d ks g at_ f) (k : Dk a H H') (ha : DeckAt H a) : Woody K H' d ks g at_ f :=
  ⟨w.kids.keep k.keep ha, w.top, w.rep, w.perm, w.named⟩
/-- the wood with one node more -/
theorem Woody.step {K : PySem.W.Frag} {H H' : Hp} {d p q : Addr} {ks : List Str} {g : Str → List Str} {at_ : Str → Addr} {f : Fo} (w : Woody K H d ks g at_ f) {x over : Str} (hx : x ∉ ("" : Str) :: ks) (ho : over ∈ ("" : Str) :: ks) {k tk : Nat} (hk : k ≤ (g over).length)
    (kd : Kids H' d ((("" : Str) :: ks) ++ [x]) (fun n => if n = x then ((g over).drop k).take tk else if n = over then (g over).take k ++ [x] ++ (g over).drop (k + tk) else g n) (fun n => if n = over then q else if n = x then p else at_ n)) :
    ∃ g' f', Woody K H' d (ks ++ [x]) g' (fun n => if n = over then q else if n = x then p else at_ n) f' ∧ (tk = 0 → ∀ e : Str → Nat, f.Dep e 0 → e ("" : Str) = 0 → e x = e over + 1 → f'.Dep e 0) := by
  have hx0 : ¬ x = ("" : Str) := fun e => hx (e ▸ List.mem_cons_self ..)
  have hxk : x ∉ ks := fun e => hx (List.mem_cons_of_mem _ e)
  have hxf : x ∉ f.nm := fun e => hxk (w.perm.mem_iff.mp e)
  have nd : f.nm.Nodup := w.perm.nodup_iff.mpr (List.nodup_cons.mp w.kids.nd).2
  have h0f : ("" : Str) ∉ f.nm := fun e => w.named (w.perm.mem_iff.mp e)
  by_cases e : over = ("" : Str)
  · subst e
    refine ⟨_, Fo.insTop k tk x f, ⟨kd, ?_, ?_, ?_, ?_⟩, ?_⟩
    · show (if ("" : Str) = x then _ else if ("" : Str) = ("" : Str) then _ else _) = _
      rw [if_neg (fun z => hx0 z.symm), if_pos rfl, Fo.tops_ins _ _ _ _ (by rw [← w.top]; exact hk), w.top]
    · refine Fo.Rep.insTop (w.rep.congr fun m hm => ?_) (by rw [← w.top]; exact hk) ?_
      · show (if m = x then _ else if m = ("" : Str) then _ else g m) = g m
        rw [if_neg (fun z : m = x => hxf (z ▸ hm)), if_neg (fun z : m = ("" : Str) => h0f (z ▸ hm))]
      · show (if x = x then _ else _) = _
        rw [if_pos rfl, w.top]
    · exact (Fo.nm_insTop k tk x f).trans ((w.perm.cons x).trans (List.perm_append_singleton x ks).symm)
    · intro z
      rcases List.mem_append.mp z with y | y
      · exact w.named y
      · exact hx0 (List.mem_singleton.mp y).symm
    · rintro rfl e hd e0 ex
      exact Fo.Dep.insTop hd (by rw [ex, e0])
  · have hof : over ∈ f.nm := w.perm.mem_iff.mpr ((List.mem_cons.mp ho).resolve_left e)
    refine ⟨_, Fo.insAt over k tk x f, ⟨kd, ?_, ?_, ?_, ?_⟩, ?_⟩
    · show (if ("" : Str) = x then _ else if ("" : Str) = over then _ else g ("" : Str)) = _
      rw [if_neg (fun z => hx0 z.symm), if_neg (fun z => e z.symm), Fo.tops_insAt, w.top]
    · exact Fo.Rep.insAt w.rep nd hof hxf rfl hk
    · exact (Fo.nm_insAt over k tk x f nd hof).trans ((w.perm.cons x).trans (List.perm_append_singleton x ks).symm)
    · intro z
      rcases List.mem_append.mp z with y | y
      · exact w.named y
      · exact hx0 (List.mem_singleton.mp y).symm
    · rintro rfl e hd e0 ex
      exact Fo.Dep.insAt hd ex
section
variable {K : PySem.W.Frag}
theorem wood_b1 {H : Hp} {D : Ends} {a d : Addr} {ks : List Str} {g : Str → List Str} {at_ : Str → Addr} {f : Fo} {x : Str} {x1 x4 x5 x6 x7 : Option V} (hd : DeckAt H a) (hda : d ≠ a) (w : Woody K H d ks g at_ f) (hx : x ∉ ("" : Str) :: ks) (hl : ks.length < 1000) (hlen : ∀ n ∈ ("" : Str) :: ks, (g n).length ≤ 1000)
    (q : ∀ (H' : Hp) (g' : Str → List Str) (at' : Str → Addr) (f' : Fo) (y4 y5 y6 y7 : Option V), (∀ b o, H b = some o → b ≠ a → b ≠ d → H' b = some o) → DeckAt H' a → Woody K H' d (ks ++ [x]) g' at' f' → D.nx [some (.ref a), x1, some (.ref d), some (.str x), y4, y5, y6, y7] H') :
    t_l_wood_b1 K D [some (.ref a), x1, some (.ref d), some (.str x), x4, x5, x6, x7] H := by
  unfold t_l_wood_b1
  walk_at "rd"
  refine ⟨d, _, rfl, w.kids.dict, fun l1 hl1 => ?_⟩
  have d1 : d ≠ l1 := ne_of_none w.kids.dict hl1
  refine ⟨d, _, rfl, by rw [upd_ne d1]; exact w.kids.dict, ?_⟩
  rw [kvs_len, keys_kvs]
  have kp1 : Kp H (upd H l1 (.lst ((("" : Str) :: ks).map V.str))) := (show Kp H H from fun _ _ h => h).new hl1
  have hd1 : DeckAt (upd H l1 (.lst ((("" : Str) :: ks).map V.str))) a := by
    obtain ⟨x, y, z, e⟩ := hd
    exact ⟨x, y, z, kp1 _ _ e⟩
  have l1a : l1 ≠ a := deck_ne hd hl1
  refine o_draw hd1 (by simp only [List.length_cons]; omega) (by simp only [List.length_cons]; omega) fun i H2 i0 i1 k2 => ?_
  have k02 : Dk a H H2 := ⟨fun b o e nb => k2.keep b o (kp1 b o e) nb, k2.deck⟩
  have w2 := w.deck k02 hd
  obtain ⟨over, hov⟩ : ∃ over, (("" : Str) :: ks)[i.toNat]? = some over := by
    rw [List.getElem?_eq_getElem (by have : i < ((("" : Str) :: ks).length : Int) := i1; omega)]
    exact ⟨_, rfl⟩
  have ho : over ∈ ("" : Str) :: ks := List.mem_of_getElem? hov
  refine o_ixL (k2.keep _ _ upd_same l1a) (v := .str over) (at_of (j := i.toNat) (by omega) (by rw [List.getElem?_map, hov]; rfl)) ?_
  walk_at "rd"
  refine ⟨d, _, rfl, w2.kids.get ho, ?_⟩
  have lo := w2.kids.lists over ho
  refine ⟨_, _, rfl, .inl (SqL.of lo), ?_⟩
  walk_at "rd"
  have hl1000 := hlen over ho
  refine o_draw k02.deck (by omega) (by simp; omega) fun k H3 a0 a1 k3 => ?_
  have k03 := k02.trans k3
  have w3 := w.deck k03 hd
  refine ⟨d, _, rfl, w3.kids.get ho, ?_⟩
  walk_at "rd"
  refine o_draw k03.deck (by decide) (by decide) fun c H4 c0 c1 k4 => ?_
  have k04 := k03.trans k4
  have w4 := w.deck k04 hd
  walk_at "rd"
  refine ⟨⟨by decide, by decide⟩, ?_⟩
  have lo4 := w4.kids.lists over ho
  refine ⟨_, _, rfl, .inl (SqL.of lo4), ?_⟩
  walk_at "rd"
  simp only [List.length_map] at a1 ⊢
  refine o_draw k04.deck (by omega) (by omega) fun t H5 t0 t1 k5 => ?_
  have k05 := k04.trans k5
  have w5 := w.deck k05 hd
  have lo5 := w5.kids.lists over ho
  walk_at "rd"
  refine ⟨.inl ⟨by omega, by omega⟩, ?_⟩
  obtain ⟨tk, htk, htk2⟩ : ∃ tk : Nat, c / 3 * t = (tk : Int) ∧ k.toNat + tk ≤ (g over).length := by
    have h3 : c / 3 = 0 ∨ c / 3 = 1 := by omega
    rcases h3 with h3 | h3 <;> rw [h3]
    · exact ⟨0, by omega, by omega⟩
    · exact ⟨t.toNat, by omega, by omega⟩
  rw [htk]
  have hk : k = ((k.toNat : Nat) : Int) := by omega
  have e1 : k + (tk : Int) = ((k.toNat + tk : Nat) : Int) := by omega
  generalize hkn : k.toNat = kn at hk e1 htk2
  subst hk
  rw [e1]
  have hz := sizeLine_eq
  refine ⟨at_ over, _, rfl, SqL.of lo5, fun p hp => ?_⟩
  generalize hG : upd H5 p _ = H6
  obtain ⟨k6, e6⟩ := gen_new hp hG
  clear hG
  have lo6 := k6 _ _ lo5
  refine ⟨d, _, rfl, DPut.k (k := (Sum.inr x : Key)) (k6 _ _ w5.kids.dict) (by rw [kvs_len]; simp only [List.length_cons]; omega), ?_⟩
  rw [put_new _ _ _ _ hx]
  generalize hG : upd H6 d _ = H7
  obtain ⟨k7, e7⟩ := gen_chg hG
  clear hG
  have opd : at_ over ≠ d := fun e => by rw [e, w5.kids.dict] at lo5; cases lo5
  have dp : d ≠ p := ne_of_none w5.kids.dict hp
  have lo7 := k7 _ _ lo6 opd
  refine ⟨at_ over, _, rfl, SqL.of lo7, fun p1 hp1 => ?_⟩
  generalize hG : upd H7 p1 _ = H8
  obtain ⟨k8, e8⟩ := gen_new hp1 hG
  clear hG
  refine ⟨by show 1 ≤ sizeLine; decide, fun p2 hp2 => ?_⟩
  generalize hG : upd H8 p2 _ = H9
  obtain ⟨k9, e9⟩ := gen_new hp2 hG
  clear hG
  refine ⟨p1, p2, _, _, rfl, rfl, k9 _ _ e8, e9, ?_, fun p3 hp3 => ?_⟩
  · have := cutV_length ((g over).map V.str) none (some ((kn : Nat) : Int))
    simp only [List.length_map] at this
    simp only [List.length_cons, List.length_nil]; omega
  generalize hG : upd H9 p3 _ = H10
  obtain ⟨k10, e10⟩ := gen_new hp3 hG
  clear hG
  refine ⟨at_ over, _, rfl, SqL.of (k10 _ _ (k9 _ _ (k8 _ _ lo7))), fun p4 hp4 => ?_⟩
  generalize hG : upd H10 p4 _ = H11
  obtain ⟨k11, e11⟩ := gen_new hp4 hG
  clear hG
  refine ⟨p3, p4, _, _, rfl, rfl, k11 _ _ e10, e11, ?_, fun p5 hp5 => ?_⟩
  · have h1 := cutV_length ((g over).map V.str) none (some ((kn : Nat) : Int))
    have h2 := cutV_length ((g over).map V.str) (some ((kn + tk : Nat) : Int)) none
    simp only [List.length_map] at h1 h2
    simp only [List.length_append, List.length_cons, List.length_nil]; omega
  generalize hG : upd H11 p5 _ = H12
  obtain ⟨k12, e12⟩ := gen_new hp5 hG
  clear hG
  have k712 : Kp H7 H12 := fun b o e => k12 _ _ (k11 _ _ (k10 _ _ (k9 _ _ (k8 _ _ e))))
  have k711 : Kp H7 H11 := fun b o e => k11 _ _ (k10 _ _ (k9 _ _ (k8 _ _ e)))
  walk_at "rd"
  refine ⟨d, _, rfl, DPut.k (k := (Sum.inr over : Key)) (k712 _ _ e7) (by rw [kvs_len]; simp only [List.length_cons, List.length_append, List.length_nil]; omega), ?_⟩
  rw [put_old _ _ _ _ (List.mem_append_left _ ho)]
  generalize hG : upd H12 d _ = H13
  obtain ⟨k13, e13⟩ := gen_chg hG
  clear hG
  have k5 : ∀ b o, H5 b = some o → b ≠ d → H13 b = some o := fun b o e nb => k13 _ _ (k712 _ _ (k7 _ _ (k6 _ _ e) nb)) nb
  have hdp5 : d ≠ p5 := ne_of_none (k711 _ _ e7) hp5
  have hpp5 : p ≠ p5 := ne_of_none (k711 _ _ (k7 _ _ e6 dp.symm)) hp5
  have h5p5 : H5 p5 = none := by
    cases e : H5 p5 with
    | none => rfl
    | some o => rw [k711 _ _ (k7 _ _ (k6 _ _ e) hdp5.symm)] at hp5; cases hp5
  obtain ⟨x0, y0, z0, da⟩ := k05.deck
  have hd13 : DeckAt H13 a := ⟨x0, y0, z0, k5 _ _ da hda.symm⟩
  have c1 : cutV ((g over).map V.str) (some ((kn : Nat) : Int)) (some ((kn + tk : Nat) : Int)) = (((g over).drop kn).take tk).map V.str := by
    rw [cutV_str, HT.sIx_nat, HT.sIx_nat, Nat.min_eq_left (by omega), Nat.min_eq_left (by omega)]
    congr 3; omega
  have c2 : cutV ((g over).map V.str) none (some ((kn : Nat) : Int)) = ((g over).take kn).map V.str := by
    rw [cutV_str, HT.sIx_none, HT.sIx_nat, Nat.min_eq_left (by omega)]; simp
  have c3 : cutV ((g over).map V.str) (some ((kn + tk : Nat) : Int)) none = ((g over).drop (kn + tk)).map V.str := by
    rw [cutV_str, HT.sIx_none, HT.sIx_nat, Nat.min_eq_left (by omega)]
    congr 1
    rw [List.take_of_length_le]; simp
  have kd := w5.kids.put2 (H1 := H13) (x := x) (over := over) (p := p) (q := p5) (l := ((g over).drop kn).take tk) (l2 := (g over).take kn ++ [x] ++ (g over).drop (kn + tk)) hx ho hp h5p5 hpp5 k5
    (by rw [← c1]; exact k13 _ _ (k712 _ _ (k7 _ _ e6 dp.symm)) dp.symm)
    (by rw [k13 _ _ e12 hdp5.symm, c2, c3]; simp)
    (by
      rw [e13]
      congr 2
      refine List.map_congr_left fun m _ => ?_
      by_cases q1 : m = over
      · simp only [if_pos q1]
      · by_cases q2 : m = x
        · simp only [if_neg q1, if_pos q2]
        · simp only [if_neg q1, if_neg q2])
  obtain ⟨g', f', w', _⟩ := w5.step hx ho (by omega) kd
  exact q H13 g' _ f' _ _ _ _ (fun b o e n1 n2 => k5 _ _ (k05.keep _ _ e n1) n2) hd13 w'

def sp_l_wood (K : PySem.W.Frag) : Sp := fun vs H Q _ => ∃ (a ns : Addr) (zs : List Str), vs = [.ref a, .ref ns] ∧ DeckAt H a ∧ SqL K H ns (zs.map V.str) ∧ ns ≠ a ∧ zs.Nodup ∧ (∀ z ∈ zs, IsName z) ∧ zs.length ≤ 100 ∧
  ∀ (p : Addr) (H' : Hp) (f : Fo), Dk a H H' → WoodAt K H' p f → f.nm.Perm zs → Q (.ref p) H'
theorem len_l_wood (vs : List V) (H : Hp) (Q : VK) (E : XK) (h : sp_l_wood K vs H Q E) : vs.length = 2 := by
  obtain ⟨_, _, _, rfl, _⟩ := h
  rfl
theorem IsName.ne {z : Str} (h : IsName z) : z ≠ ("" : Str) := fun e => by
  have h1 := h.one
  rw [e] at h1
  exact absurd h1 (by decide +kernel)
theorem SqL.keep {H H' : Hp} {a b : Addr} {xs : List V} (h : SqL K H a xs) (hab : a ≠ b) (k : ∀ c o, H c = some o → c ≠ b → H' c = some o) : SqL K H' a xs := by
  rcases h with (h | ⟨o, h⟩) | h
  · exact .inl (.inl (k _ _ h hab))
  · exact .inl (.inr ⟨o, k _ _ h hab⟩)
  · exact .inr h
theorem kids_len {H : Hp} {d : Addr} {ks : List Str} {g : Str → List Str} {at_ : Str → Addr} {f : Fo} (w : Woody K H d ks g at_ f) : ∀ n ∈ ("" : Str) :: ks, (g n).length ≤ ks.length := by
  have hp := w.perm.length_eq
  intro n hn
  rcases List.mem_cons.mp hn with e | hn
  · rw [e, w.top]; have := tops_len f; omega
  · have hf : n ∈ f.nm := w.perm.mem_iff.mpr hn
    have := rep_len w.rep hf
    omega
where
  rep_len {g : Str → List Str} : ∀ {f : Fo} {n : Str}, f.Rep g → n ∈ f.nm → (g n).length ≤ f.nm.length
    | .nil, _, _, h => by simp [Fo.nm] at h
    | .cons m ks r, n, hr, h => by
      rcases List.mem_cons.mp (show n ∈ m :: (ks.nm ++ r.nm) from h) with e | h
      · rw [e, hr.1]; have := tops_len ks; simp only [Fo.nm, List.length_cons, List.length_append]; omega
      · rcases List.mem_append.mp h with h | h
        · have := rep_len hr.2.1 h; simp only [Fo.nm, List.length_cons, List.length_append]; omega
        · have := rep_len hr.2.2 h; simp only [Fo.nm, List.length_cons, List.length_append]; omega
theorem pure_l_wood (vs : List V) (H : Hp) (Q : VK) (E : XK) (h : sp_l_wood K vs H Q E) : t_l_wood K { nx := fun _ H' => Q .non H', rt := Q } (startN 8 vs) H := by
  obtain ⟨a, ns, zs, rfl, hd, hs, hna, nd, hnm, hl, q⟩ := h
  show t_l_wood K _ [some (.ref a), some (.ref ns), none, none, none, none, none, none] H
  unfold t_l_wood
  walk_at "rd"
  intro d hdn
  generalize hG : upd H d _ = H1
  obtain ⟨k1, e1⟩ := gen_new hdn hG
  clear hG
  refine ⟨Nat.zero_le _, fun l hln => ?_⟩
  generalize hG : upd H1 l _ = H2
  obtain ⟨k2, e2⟩ := gen_new hln hG
  clear hG
  refine ⟨k2 _ _ e1, [((Sum.inr ("" : Str) : Key), .ref l)], rfl, by show 1 ≤ 15; decide, ?_⟩
  generalize hG : upd H2 d _ = H3
  obtain ⟨k3, e3⟩ := gen_chg hG
  clear hG
  have hdl : d ≠ l := ne_of_none e1 hln
  have hda : d ≠ a := deck_ne hd hdn
  have k03 : ∀ b o, H b = some o → b ≠ a → H3 b = some o := fun b o e nb => k3 _ _ (k2 _ _ (k1 _ _ e)) (ne_of_none e hdn)
  obtain ⟨x0, y0, z0, da⟩ := hd
  have hd : DeckAt H a := ⟨x0, y0, z0, da⟩
  have d3 : DeckAt H3 a := ⟨x0, y0, z0, k3 _ _ (k2 _ _ (k1 _ _ da)) hda.symm⟩
  have kk : Dk a H H3 := ⟨k03, d3⟩
  walk_at "rd"
  have hs3 : SqL K H3 ns (zs.map V.str) := SqL.keep hs hna k03
  refine ⟨⟨_, hs3⟩, ?_⟩
  refine fb_list (xs := zs.map V.str) (fun i σ H4 => Dk a H H4 ∧ ∃ g at_ f y3 y4 y5 y6 y7, Woody K H4 d (zs.take i) g at_ f ∧ σ = [some (.ref a), some (.ref ns), some (.ref d), y3, y4, y5, y6, y7]) ?_ ?_ ?_ ?_
  · refine ⟨kk, fun _ => [], fun _ => l, .nil, _, _, _, _, _, ⟨⟨?_, ?_, ?_, ?_⟩, rfl, trivial, List.Perm.refl _, by simp⟩, rfl⟩
    · rw [e3]; rfl
    · intro n hn
      have e := List.mem_singleton.mp hn
      exact k3 _ _ e2 hdl.symm
    · intro n hn m hm _
      rw [List.mem_singleton.mp hn, List.mem_singleton.mp hm]
    · simp
  · rintro i σ H4 _ ⟨k4, _⟩
    exact SqL.keep hs hna k4.keep
  · rintro i x σ H4 hx ⟨k4, g, at_, f, y3, y4, y5, y6, y7, w, rfl⟩
    obtain ⟨z, hz, rfl⟩ : ∃ z, zs[i]? = some z ∧ x = .str z := by
      rw [List.getElem?_map] at hx
      cases e : zs[i]? with
      | none => rw [e] at hx; cases hx
      | some z => rw [e] at hx; exact ⟨z, rfl, (Option.some.inj hx).symm⟩
    have hzi : z ∈ zs := List.mem_of_getElem? hz
    have hi : i < zs.length := (List.getElem?_eq_some_iff.mp hz).1
    walk_at "rd"
    have hnew : z ∉ ("" : Str) :: zs.take i := by
      intro h
      rcases List.mem_cons.mp h with e | h
      · exact (hnm z hzi).ne e
      · obtain ⟨j, hj, e⟩ := List.mem_take_iff_getElem.mp h
        obtain ⟨_, e2⟩ := List.getElem?_eq_some_iff.mp hz
        have := (List.getElem_inj nd).mp (e.trans e2.symm)
        omega
    have hkl := kids_len w
    have htl : (zs.take i).length ≤ 100 := by rw [List.length_take]; omega
    refine wood_b1 k4.deck hda w hnew (by omega) (fun n hn => by have := hkl n hn; omega) fun H5 g' at' f' y4 y5 y6 y7 k5 d5 w5 => ?_
    refine ⟨⟨fun b o e nb => k5 _ _ (k4.keep _ _ e nb) nb (ne_of_none e hdn), d5⟩, g', at', f', _, _, _, _, _, ?_, rfl⟩
    rw [List.take_add_one, hz]
    exact w5
  · rintro σ H4 ⟨k4, g, at_, f, y3, y4, y5, y6, y7, w, rfl⟩
    rw [List.length_map, List.take_length] at w
    walk_at "rd"
    have hpl := w.perm.length_eq
    refine ⟨d, ("" : Str), _, g, at_, f, rfl, w.kids, List.mem_cons_self .., w.top, w.rep, fun x hx => List.mem_cons_of_mem _ (w.perm.mem_iff.mp hx), by have := Fo.dp_le f; show f.dp ≤ 120; omega, by omega, fun p H5 k5 hw => ?_⟩
    obtain ⟨x1, y1, z1, da4⟩ := k4.deck
    exact q p H5 f ⟨fun b o e nb => k5 _ _ (k4.keep _ _ e nb), x1, y1, z1, k5 _ _ da4⟩ hw w.perm
end
end Tw
set_option Elab.async false
set_option linter.all false
set_option maxRecDepth 100000
set_option maxHeartbeats 4000000
namespace Tw
open PySem PySem.Spec PyProof.Rows L2 TL
section
variable {K : PySem.W.Frag} {σ : L2.St} {H : Hp} {Q : VK} {td : TE} {D : Ends} {t : TS}
theorem o_lock : tLock t D σ H = ∃ d u, H d = some u ∧ Mut (some u) ∧ ∀ od, t ⟨fun σ' H' => H' d = some (.frz od u) ∧ D.nx σ' (upd H' d u), fun v H' => H' d = some (.frz od u) ∧ D.rt v (upd H' d u), fun σ' H' => H' d = some (.frz od u) ∧ D.bk σ' (upd H' d u), fun σ' H' => H' d = some (.frz od u) ∧ D.ct σ' (upd H' d u)⟩ σ (upd H d (.frz od u)) := rfl
theorem o_keysM {R : It → Hp → Prop} : iKeysM td σ H R = td σ H fun x H1 => ∃ d o kvs, x = .ref d ∧ H1 d = some (.frz o (.dK kvs)) ∧ R (Itk d o kvs) H1 := rfl
theorem o_gtup {n : Nat} {t : TGs} {v : V} {Q : L2.St → Hp → Prop} : gTup K n t v σ H Q = ∃ a xs, v = .ref a ∧ SqT K H a xs ∧ xs.length = n ∧ t xs σ H Q := rfl
theorem o_gcons {t : TG} {u : TGs} {vs : List V} {Q : L2.St → Hp → Prop} : gCons t u vs σ H Q = ∃ v r, vs = v :: r ∧ t v σ H fun σ' H' => u r σ' H' Q := rfl
theorem o_gnil {vs : List V} {Q : L2.St → Hp → Prop} : gNil vs σ H Q = (vs = [] ∧ Q σ H) := rfl
theorem o_catA {x y : V} : rCatA K x y H Q = ∃ a b xs ys, x = .ref a ∧ y = .ref b ∧ SqT K H a xs ∧ SqT K H b ys ∧ xs.length + ys.length ≤ sizeLine ∧ (xs = [] → Q (.ref b) H) ∧ (xs ≠ [] → ys = [] → Q (.ref a) H) ∧ (xs ≠ [] → ys ≠ [] → ∀ p, H p = none → Q (.ref p) (upd H p (.tup (xs ++ ys)))) := rfl
end
local macro_rules | `(tactic| walk_at "rd") => `(tactic| try simp only [o_op, o_un, o_var, o_c, o_cb, o_call, o_cons, o_nil, o_tup, o_lst, o_I0, o_I, o_int1, o_intb, o_abs, o_test, o_b, o_not, o_and, o_or, o_andV, o_orV, o_notV, o_ifE, o_isN, o_notN, o_eq, o_ne, o_seq, o_next, o_asg, o_name, o_sub, o_par, o_par3, o_drop, o_ret, o_retN, o_ifS, o_sl, o_noPart, o_part, o_bm, o_bm0, o_m0, o_m1, o_dget, o_dput, o_din, o_dnotin, o_listKeys, e_bl, e_int, e_str, e_some, e_two, e_three, o_for, o_lc, o_iList, o_iTup, o_iRng1, e_int1, e_ref, o_yes, o_wipe0, o_wipe1, o_disp, o_dnew, o_pairs0, o_pairs1, o_lock, o_keysM, o_gtup, o_gcons, o_gnil, o_catA, true_and, if_pos, List.getElem?_cons_zero, List.getElem?_cons_succ, List.set_cons_zero, List.set_cons_succ, List.append_nil])
def t_l_tall_wood_r1 (K : PySem.W.Frag) : TS :=
  (tSeq (tAsg (tDGet (tVar 3) (tVar 5)) (gName 9))
  (tSeq (tDrop (tBM K "list" rInsert (tVar 9) (tCons (tCall sp_l_draw [] E0 (tCons (tVar 0) (tCons (tOp (rI0 fun i j => .int (i + j)) (tCB (rLenSeq K) (tCons (tVar 9) tNil)) (tC (.int 1))) tNil))) (tCons (tVar 7) tNil))))
  (tSeq (sDPut (tVar 3) (tVar 7) (tLst tNil))
  (tSeq (sDPut (tVar 4) (tVar 7) (tOp (rI0 fun i j => .int (i + j)) (tDGet (tVar 4) (tVar 5)) (tC (.int 1))))
  (tAsg (tVar 7) (gName 5))))))
def t_l_tall_wood_b1 (K : PySem.W.Frag) : TS :=
  (tSeq (tAsg (tOp (rIxL K) (tVar 1) (tVar 6)) (gName 7))
  (C8.tCut (tIfS (tTest (tOp (rI0 fun i j => .bl (decide (j ≤ i))) (tVar 6) (tVar 2))) (tSeq (tLock (tAsg (tLc (iKeysM (tVar 3)) (gName 10) (tTest (tOp (rI0 fun i j => .bl (decide (i < j))) (tDGet (tVar 4) (tVar 10)) (tVar 2))) (tVar 10) [10]) (gName 8)))
  (tAsg (tOp (rIxL K) (tVar 8) (tCall sp_l_draw [] E0 (tCons (tVar 0) (tCons (tCB (rLenSeq K) (tCons (tVar 8) tNil)) tNil)))) (gName 5))) tNext)
  (t_l_tall_wood_r1 K)))
def t_l_tall_wood (K : PySem.W.Frag) : TS :=
  (tSeq (tAsg (tTup (tCons (tDisp [((tC (.str "")), (tLst tNil))]) (tCons (tDisp [((tC (.str "")), (tC (.int 0)))]) tNil))) (gTup K 2 (gCons (gName 3) (gCons (gName 4) gNil))))
  (tSeq (tAsg (tC (.str "")) (gName 5))
  (tSeq (tFor (iRng1 (tCons (tCB (rLenSeq K) (tCons (tVar 1) tNil)) tNil)) (gName 6)
  (t_l_tall_wood_b1 K))
  (tRet (tCall (spW K 121) [] E0 (tCons (tVar 3) (tCons (tC (.str "")) tNil)))))))
section
variable {H H1 : Hp} {d : Addr} {ks : List Str} {g : Str → List Str} {at_ : Str → Addr}
/-- a name put into the list of over, where it stands; a new list for it -/
theorem Kids.ins (k : Kids H d ks g at_) {x over : Str} {p : Addr} {kk : Nat} (hx : x ∉ ks) (ho : over ∈ ks) (hp : H p = none)
    (h : ∀ n ∈ ks, n ≠ over → H1 (at_ n) = some (.lst ((g n).map V.str))) (h1 : H1 p = some (.lst [])) (h2 : H1 (at_ over) = some (.lst (((g over).take kk ++ [x] ++ (g over).drop kk).map V.str))) (hd : H1 d = some (.dK (kvs (ks ++ [x]) fun n => .ref (if n = over then at_ over else if n = x then p else at_ n)))) :
    Kids H1 d (ks ++ [x]) (fun n => if n = x then ((g over).drop kk).take 0 else if n = over then (g over).take kk ++ [x] ++ (g over).drop (kk + 0) else g n) (fun n => if n = over then at_ over else if n = x then p else at_ n) := by
  have hxo : x ≠ over := fun e => hx (e ▸ ho)
  have no : ∀ n ∈ ks, at_ n ≠ p := fun n hn e => by have := k.lists n hn; rw [e, hp] at this; cases this
  have hdn : ∀ n ∈ ks, at_ n ≠ d := fun n hn e => by have := k.lists n hn; rw [e, k.dict] at this; cases this
  have old : ∀ n ∈ ks ++ [x], n ≠ x → n ∈ ks := fun n hn z => by
    rcases List.mem_append.mp hn with y | y
    · exact y
    · exact absurd (List.mem_singleton.mp y) z
  refine ⟨hd, fun n hn => ?_, fun n hn m hm e => ?_, nodup_snoc k.nd hx⟩
  · show H1 (if n = over then at_ over else if n = x then p else at_ n) = some (.lst ((if n = x then _ else if n = over then _ else g n).map V.str))
    by_cases e1 : n = over
    · have e2 : ¬ n = x := fun z => hxo (z.symm.trans e1)
      rw [if_pos e1, if_neg e2, if_pos e1]; exact h2
    · by_cases e2 : n = x
      · rw [if_neg e1, if_pos e2, if_pos e2]; simpa using h1
      · rw [if_neg e1, if_neg e2, if_neg e2, if_neg e1]
        have hn' := old n hn e2
        exact h n hn' e1
  · have e : (if n = over then at_ over else if n = x then p else at_ n) = (if m = over then at_ over else if m = x then p else at_ m) := e
    by_cases a1 : n = over
    · rw [if_pos a1] at e
      by_cases b1 : m = over
      · rw [a1, b1]
      · rw [if_neg b1] at e
        by_cases b2 : m = x
        · rw [if_pos b2] at e; exact absurd e (no over ho)
        · rw [if_neg b2] at e; exact (a1.trans (k.inj over ho m (old m hm b2) e))
    · rw [if_neg a1] at e
      by_cases a2 : n = x
      · rw [if_pos a2] at e
        by_cases b1 : m = over
        · rw [if_pos b1] at e; exact absurd e.symm (no over ho)
        · rw [if_neg b1] at e
          by_cases b2 : m = x
          · rw [a2, b2]
          · rw [if_neg b2] at e; exact absurd e.symm (no m (old m hm b2))
      · rw [if_neg a2] at e
        by_cases b1 : m = over
        · rw [if_pos b1] at e; exact (k.inj n (old n hn a2) over ho e).trans b1.symm
        · rw [if_neg b1] at e
          by_cases b2 : m = x
          · rw [if_pos b2] at e; exact absurd e (no n (old n hn a2))
          · rw [if_neg b2] at e; exact k.inj n (old n hn a2) m (old m hm b2) e
end
section
variable {K : PySem.W.Frag}
/-- what the loop of tall_wood keeps: the kids, the depths -/
structure Tall (K : PySem.W.Frag) (H : Hp) (d dd : Addr) (tall : Int) (ks : List Str) (g : Str → List Str) (at_ : Str → Addr) (f : Fo) (e : Str → Nat) : Prop where
  w : Woody K H d ks g at_ f
  deep : H dd = some (.dK (kvs (("" : Str) :: ks) fun n => .int (e n)))
  dep : f.Dep e 0
  e0 : e ("" : Str) = 0
  le : ∀ n ∈ ("" : Str) :: ks, (e n : Int) ≤ tall
theorem tall_r1 {H : Hp} {D : Ends} {a d dd : Addr} {tall : Int} {ks : List Str} {g : Str → List Str} {at_ : Str → Addr} {f : Fo} {e : Str → Nat} {x over : Str} {x1 x2 x6 x8 x9 x10 : Option V} (hd : DeckAt H a) (hda : d ≠ a) (hdda : dd ≠ a) (w : Tall K H d dd tall ks g at_ f e) (hx : x ∉ ("" : Str) :: ks) (ho : over ∈ ("" : Str) :: ks) (he : (e over : Int) < tall) (hl : ks.length < 1000)
    (q : ∀ (H' : Hp) (g' : Str → List Str) (at' : Str → Addr) (f' : Fo) (e' : Str → Nat) (y9 : Option V), (∀ b o, H b = some o → b ≠ a → b ≠ d → b ≠ dd → b ≠ at_ over → H' b = some o) → DeckAt H' a → (∀ n ∈ ("" : Str) :: ks ++ [x], (n ∈ ("" : Str) :: ks ∧ at' n = at_ n) ∨ H (at' n) = none) → Tall K H' d dd tall (ks ++ [x]) g' at' f' e' → e' x = e over + 1 → D.nx [some (.ref a), x1, x2, some (.ref d), some (.ref dd), some (.str x), x6, some (.str x), x8, y9, x10] H') :
    t_l_tall_wood_r1 K D [some (.ref a), x1, x2, some (.ref d), some (.ref dd), some (.str over), x6, some (.str x), x8, x9, x10] H := by
  unfold t_l_tall_wood_r1
  have hz := sizeLine_eq
  have hkl := kids_len w.w over ho
  walk_at "rd"
  refine ⟨d, _, rfl, w.w.kids.get ho, ?_⟩
  walk_at "rd"
  have lo := w.w.kids.lists over ho
  refine ⟨.inl ⟨rfl, _, SqL.of lo⟩, _, _, rfl, .inl (SqL.of lo), ?_⟩
  walk_at "rd"
  simp only [List.length_map]
  refine o_draw hd (by omega) (by omega) fun k H2 k0 k1 k2 => ?_
  have w2 := w.w.deck k2 hd
  have lo2 := w2.kids.lists over ho
  have dd2 := k2.keep _ _ w.deep hdda
  walk_at "rd"
  refine ⟨at_ over, _, k, _, rfl, rfl, lo2, by simp; omega, k0, by omega, ?_⟩
  generalize hG : upd H2 (at_ over) _ = H3
  obtain ⟨k3, e3⟩ := gen_chg hG
  clear hG
  refine ⟨Nat.zero_le _, fun p hp => ?_⟩
  generalize hG : upd H3 p _ = H4
  obtain ⟨k4, e4⟩ := gen_new hp hG
  clear hG
  have opd : at_ over ≠ d := fun z => by rw [z, w2.kids.dict] at lo2; cases lo2
  have opdd : at_ over ≠ dd := fun z => by rw [z, dd2] at lo2; cases lo2
  have dne : d ≠ dd := by
    intro z
    have h1 := w2.kids.dict
    rw [z, dd2] at h1
    have h2 : kvs (("" : Str) :: ks) (fun n => V.int (e n)) = kvs (("" : Str) :: ks) (fun n => V.ref (at_ n)) := HO.dK.inj (Option.some.inj h1)
    have h3 : V.int (e ("" : Str)) = V.ref (at_ ("" : Str)) := congrArg (fun l : List (Key × V) => match l with | p :: _ => p.2 | [] => .non) h2
    cases h3
  have d4 := k4 _ _ (k3 _ _ w2.kids.dict opd.symm)
  refine ⟨d, _, rfl, DPut.k (k := (Sum.inr x : Key)) d4 (by rw [kvs_len]; simp only [List.length_cons]; omega), ?_⟩
  rw [put_new _ _ _ _ hx]
  generalize hG : upd H4 d _ = H5
  obtain ⟨k5, e5⟩ := gen_chg hG
  clear hG
  have dd5 := k5 _ _ (k4 _ _ (k3 _ _ dd2 opdd.symm)) dne.symm
  have gdd : DGet H5 dd (.str over) (some (.int (e over))) := by
    have h := DGet.k (k := (Sum.inr over : Key)) dd5
    rw [valV_kvs, if_pos ho] at h
    exact h
  refine ⟨dd, _, rfl, gdd, ?_⟩
  walk_at "rd"
  refine ⟨dd, _, rfl, DPut.k (k := (Sum.inr x : Key)) dd5 (by rw [kvs_len]; simp only [List.length_cons]; omega), ?_⟩
  rw [put_new _ _ _ _ hx]
  generalize hG : upd H5 dd _ = H6
  obtain ⟨k6, e6⟩ := gen_chg hG
  clear hG
  have hk : k = ((k.toNat : Nat) : Int) := by omega
  generalize hkn : k.toNat = kn at *
  subst hk
  have hx0 : ¬ x = ("" : Str) := fun e => hx (e ▸ List.mem_cons_self ..)
  have hxo : ¬ over = x := fun z => hx (z ▸ ho)
  have k26 : ∀ b o, H2 b = some o → b ≠ d → b ≠ at_ over → b ≠ dd → H6 b = some o := fun b o z n1 n2 n3 => k6 _ _ (k5 _ _ (k4 _ _ (k3 _ _ z n2)) n1) n3
  have pdd : p ≠ dd := fun z => by rw [z, k3 _ _ dd2 opdd.symm] at hp; cases hp
  have pd : p ≠ d := fun z => by rw [z, k3 _ _ w2.kids.dict opd.symm] at hp; cases hp
  have po : p ≠ at_ over := fun z => by rw [z, e3] at hp; cases hp
  have hp2 : H2 p = none := by
    cases z : H2 p with
    | none => rfl
    | some o => rw [k3 _ _ z po] at hp; cases hp
  have kd : Kids H6 d ((("" : Str) :: ks) ++ [x]) _ _ := Kids.ins (kk := kn) w2.kids hx ho hp2
    (H1 := H6) (fun n hn hno => by
      have ln := w2.kids.lists n hn
      exact k26 _ _ ln (fun z => by rw [z, w2.kids.dict] at ln; cases ln) (fun z => hno (w2.kids.inj n hn over ho z)) (fun z => by rw [z, dd2] at ln; cases ln))
    (k6 _ _ (k5 _ _ e4 pd) pdd)
    (by rw [k6 _ _ (k5 _ _ (k4 _ _ e3) opd) opdd]; simp)
    (by
      rw [k6 _ _ e5 dne]
      congr 2
      refine List.map_congr_left fun m _ => ?_
      by_cases q1 : m = x
      · have q2 : ¬ m = over := fun z => hxo (z.symm.trans q1)
        simp only [if_pos q1, if_neg q2]
      · by_cases q2 : m = over
        · subst q2; simp [if_neg q1]
        · simp only [if_neg q1, if_neg q2])
  obtain ⟨g', f', w', hdep⟩ := w2.step hx ho (k := kn) (tk := 0) (by omega) kd
  have hn0 : ∀ n ∈ f.nm, n ≠ x := fun n hn z => hx (List.mem_cons_of_mem _ (w.w.perm.mem_iff.mp (z ▸ hn)))
  obtain ⟨xa, ya, za, da⟩ := k2.deck
  have apo : a ≠ at_ over := fun z => by
    rw [← z, da] at lo2
    have h3 : [V.int xa, V.int ya, V.int za] = (g over).map V.str := HO.lst.inj (Option.some.inj lo2)
    cases hg : g over with
    | nil => rw [hg] at h3; cases h3
    | cons s r => rw [hg] at h3; cases h3
  refine q H6 g' _ f' (fun n => if n = x then e over + 1 else e n) _ (fun b o z n1 n2 n3 n4 => k26 _ _ (k2.keep _ _ z n1) n2 n4 n3) ⟨xa, ya, za, k26 _ _ da hda.symm apo hdda.symm⟩ (fun n hn => ?_) ⟨w', ?_, ?_, ?_, ?_⟩ (if_pos rfl)
  · by_cases q1 : n = over
    · exact .inl ⟨q1 ▸ ho, by subst q1; simp⟩
    · by_cases q2 : n = x
      · right
        simp only [if_neg q1, if_pos q2]
        cases z : H p with
        | none => rfl
        | some o =>
          by_cases pa : p = a
          · rw [pa, da] at hp2; cases hp2
          · rw [k2.keep _ _ z pa] at hp2; cases hp2
      · refine .inl ⟨?_, by simp only [if_neg q1, if_neg q2]⟩
        rcases List.mem_append.mp (show n ∈ (("" : Str) :: ks) ++ [x] from hn) with y | y
        · exact y
        · exact absurd (List.mem_singleton.mp y) q2
  · rw [e6]
    congr 2
    refine List.map_congr_left fun m _ => ?_
    by_cases q1 : m = x
    · simp only [if_pos q1]; rfl
    · simp only [if_neg q1]
  · refine hdep rfl _ (w.dep.congr fun n hn => if_neg (hn0 n hn)) (by rw [if_neg (fun z => hx0 z.symm)]; exact w.e0) ?_
    simp only [if_pos, if_neg hxo]
  · rw [if_neg (fun z => hx0 z.symm)]; exact w.e0
  · intro n hn
    by_cases q1 : n = x
    · simp only [if_pos q1]; omega
    · simp only [if_neg q1]
      refine w.le n ?_
      rcases List.mem_append.mp (show n ∈ (("" : Str) :: ks) ++ [x] from hn) with y | y
      · exact y
      · exact absurd (List.mem_singleton.mp y) q1

def sp_l_tall_wood (K : PySem.W.Frag) : Sp := fun vs H Q _ => ∃ (a ns : Addr) (zs : List Str) (tall : Int), vs = [.ref a, .ref ns, .int tall] ∧ DeckAt H a ∧ SqL K H ns (zs.map V.str) ∧ ns ≠ a ∧ zs.Nodup ∧ (∀ z ∈ zs, IsName z) ∧ zs.length ≤ 300 ∧ 1 ≤ tall ∧ tall ≤ 120 ∧
  ∀ (p : Addr) (H' : Hp) (f : Fo), Dk a H H' → WoodAt K H' p f → f.nm.Perm zs → (f.dp : Int) ≤ tall → Q (.ref p) H'
theorem len_l_tall_wood (vs : List V) (H : Hp) (Q : VK) (E : XK) (h : sp_l_tall_wood K vs H Q E) : vs.length = 3 := by
  obtain ⟨_, _, _, _, rfl, _⟩ := h
  rfl
theorem o_ixLq {p : Addr} {xs : List V} {i : Int} {v : V} {H : Hp} {Q : VK} (h : SqL K H p xs) (e : atI xs i = some v) (q : Q v H) : rIxL K (.ref p) (.int i) H Q := ⟨p, xs, i, v, rfl, rfl, h, e, q⟩
theorem pure_l_tall_wood (vs : List V) (H : Hp) (Q : VK) (E : XK) (h : sp_l_tall_wood K vs H Q E) : t_l_tall_wood K { nx := fun _ H' => Q .non H', rt := Q } (startN 11 vs) H := by
  obtain ⟨a, ns, zs, tall, rfl, hd, hs, hna, nd, hnm, hl, t1, t2, q⟩ := h
  show t_l_tall_wood K _ [some (.ref a), some (.ref ns), some (.int tall), none, none, none, none, none, none, none, none] H
  unfold t_l_tall_wood
  have hz := sizeLine_eq
  walk_at "rd"
  intro d hdn
  generalize hG : upd H d _ = H1
  obtain ⟨k1, e1⟩ := gen_new hdn hG
  clear hG
  refine ⟨Nat.zero_le _, fun l hln => ?_⟩
  generalize hG : upd H1 l _ = H2
  obtain ⟨k2, e2⟩ := gen_new hln hG
  clear hG
  refine ⟨k2 _ _ e1, [((Sum.inr ("" : Str) : Key), .ref l)], rfl, by show 1 ≤ 15; decide, ?_⟩
  generalize hG : upd H2 d _ = H3
  obtain ⟨k3, e3⟩ := gen_chg hG
  clear hG
  intro dd hddn
  generalize hG : upd H3 dd _ = H4
  obtain ⟨k4, e4⟩ := gen_new hddn hG
  clear hG
  refine ⟨e4, [((Sum.inr ("" : Str) : Key), .int 0)], rfl, by show 1 ≤ 15; decide, ?_⟩
  generalize hG : upd H4 dd _ = H5
  obtain ⟨k5, e5⟩ := gen_chg hG
  clear hG
  refine ⟨by show 2 ≤ sizeLine; omega, fun tp htp => ?_⟩
  generalize hG : upd H5 tp _ = H6
  obtain ⟨k6, e6⟩ := gen_new htp hG
  clear hG
  refine ⟨tp, _, rfl, SqT.of e6, rfl, _, _, rfl, _, _, rfl, rfl, ?_⟩
  have hdl : d ≠ l := ne_of_none e1 hln
  have hddd : d ≠ dd := ne_of_none e3 hddn
  have hldd : l ≠ dd := ne_of_none (k3 _ _ e2 hdl.symm) hddn
  have hda : d ≠ a := deck_ne hd hdn
  have hdd0 : H dd = none := by
    cases z : H dd with
    | none => rfl
    | some o => rw [k3 _ _ (k2 _ _ (k1 _ _ z)) hddd.symm] at hddn; cases hddn
  have hl0 : H l = none := by
    cases z : H l with
    | none => rfl
    | some o => rw [k1 _ _ z] at hln; cases hln
  have hdda : dd ≠ a := deck_ne hd hdd0
  have k06 : ∀ b o, H b = some o → H6 b = some o := fun b o e => k6 _ _ (k5 _ _ (k4 _ _ (k3 _ _ (k2 _ _ (k1 _ _ e)) (ne_of_none e hdn))) (ne_of_none e hdd0))
  obtain ⟨x0, y0, z0, da⟩ := hd
  have hd : DeckAt H a := ⟨x0, y0, z0, da⟩
  have kk : Dk a H H6 := ⟨fun b o e _ => k06 b o e, x0, y0, z0, k06 _ _ da⟩
  walk_at "rd"
  refine ⟨ns, _, rfl, .inl (SqL.keep hs hna kk.keep), ?_⟩
  simp only [List.length_map]
  walk_at "rd"
  refine ⟨by omega, by omega, ?_⟩
  rw [Int.toNat_natCast]
  refine fb_range (fun i σ H7 => Dk a H H7 ∧ ∃ g at_ f e over y6 y7 y8 y9 y10, Tall K H7 d dd tall (zs.take i) g at_ f e ∧ (∀ n ∈ ("" : Str) :: zs.take i, H (at_ n) = none) ∧ over ∈ ("" : Str) :: zs.take i ∧ ((i : Int) ≤ tall → e over = i) ∧ σ = [some (.ref a), some (.ref ns), some (.int tall), some (.ref d), some (.ref dd), some (.str over), y6, y7, y8, y9, y10]) ?_ ?_ ?_
  · refine ⟨kk, fun _ => [], fun _ => l, .nil, fun _ => 0, ("" : Str), _, _, _, _, _, ⟨⟨⟨?_, ?_, ?_, ?_⟩, rfl, trivial, List.Perm.refl _, by simp⟩, ?_, trivial, rfl, ?_⟩, fun _ _ => hl0, List.mem_cons_self .., fun _ => rfl, rfl⟩
    · rw [k6 _ _ (k5 _ _ (k4 _ _ e3) hddd)]; rfl
    · intro n hn
      exact k6 _ _ (k5 _ _ (k4 _ _ (k3 _ _ e2 hdl.symm)) hldd)
    · intro n hn m hm _
      rw [List.mem_singleton.mp hn, List.mem_singleton.mp hm]
    · simp
    · rw [k6 _ _ e5]; rfl
    · intro n hn; show ((0 : Nat) : Int) ≤ tall; omega
  · rintro i σ H7 hi ⟨k7, g, at_, f, e, over, y6, y7, y8, y9, y10, w, hat, ho, hov, rfl⟩
    obtain ⟨z, hzz⟩ : ∃ z, zs[i]? = some z := ⟨zs[i], List.getElem?_eq_getElem hi⟩
    have hzi : z ∈ zs := List.mem_of_getElem? hzz
    have htl : (zs.take i).length = i := by rw [List.length_take]; omega
    have hnew : z ∉ ("" : Str) :: zs.take i := by
      intro h
      rcases List.mem_cons.mp h with e | h
      · exact (hnm z hzi).ne e
      · obtain ⟨j, hj, e⟩ := List.mem_take_iff_getElem.mp h
        obtain ⟨_, e2⟩ := List.getElem?_eq_some_iff.mp hzz
        have := (List.getElem_inj nd).mp (e.trans e2.symm)
        omega
    unfold t_l_tall_wood_b1
    walk_at "rd"
    refine o_ixLq (v := .str z) (SqL.keep hs hna k7.keep) (at_of (j := i) (by omega) (by rw [List.getElem?_map, hzz]; rfl)) ?_
    -- the node over which it comes
    refine ⟨fun σ' H' => Dk a H H' ∧ ∃ over y8 y9 y10, Tall K H' d dd tall (zs.take i) g at_ f e ∧ over ∈ ("" : Str) :: zs.take i ∧ (e over : Int) < tall ∧ ((i : Int) < tall → e over = i) ∧ σ' = [some (.ref a), some (.ref ns), some (.int tall), some (.ref d), some (.ref dd), some (.str over), some (.int (0 + (i : Int))), some (.str z), y8, y9, y10], ?_, ?_⟩
    · walk_at "rd"
      refine ite2 (fun hge => ?_) fun hlt => ?_
      · have hge : tall ≤ 0 + (i : Int) := of_decide_eq_true hge
        refine ⟨d, _, w.w.kids.dict, trivial, fun od => ?_⟩
        generalize hG : upd H7 d _ = H8
        obtain ⟨k8, e8⟩ := gen_chg hG
        refine ⟨d, od, _, rfl, e8, ?_⟩
        have dd8 := k8 _ _ w.deep hddd.symm
        refine lb_walk walk_keys (fun L j H9 => H8 L = none ∧ Kp H8 H9 ∧ ∃ l : List Str, H9 L = some (.lst (l.map V.str)) ∧ l = ((("" : Str) :: zs.take i).take j).filter fun n => decide ((e n : Int) < tall)) ?_ ?_ ?_ ?_
        · intro L hL
          exact ⟨hL, (show Kp H8 H8 from fun _ _ h => h).new hL, [], upd_same, rfl⟩
        · rintro L j H9 _ ⟨_, k9, _⟩
          exact k9 _ _ e8
        · rintro L j x H9 H10 hj ⟨hL, k9, l, e9, hl9⟩ ⟨rfl, key, v, hkv, rfl⟩
          obtain ⟨n, hn, hkey⟩ : ∃ n, (("" : Str) :: zs.take i)[j]? = some n ∧ key = Sum.inr n := by
            simp only [kvs, List.getElem?_map] at hkv
            cases h : (("" : Str) :: zs.take i)[j]? with
            | none => rw [h] at hkv; cases hkv
            | some n => rw [h] at hkv; cases hkv; exact ⟨n, rfl, rfl⟩
          subst hkey
          have hnm2 : n ∈ ("" : Str) :: zs.take i := List.mem_of_getElem? hn
          show gName 10 (.str n) _ _ _
          walk_at "rd"
          have gdd : DGet H10 dd (.str n) (some (.int (e n))) := by
            have h := DGet.k (k := (Sum.inr n : Key)) (k9 _ _ dd8)
            rw [valV_kvs, if_pos hnm2] at h
            exact h
          refine ⟨dd, _, rfl, gdd, ?_⟩
          walk_at "rd"
          have hstep : ((("" : Str) :: zs.take i).take (j + 1)).filter (fun n => decide ((e n : Int) < tall)) = ((("" : Str) :: zs.take i).take j).filter (fun n => decide ((e n : Int) < tall)) ++ (if (e n : Int) < tall then [n] else []) := by
            rw [List.take_add_one, hn, List.filter_append]
            congr 1
            by_cases q : (e n : Int) < tall
            · simp [q]
            · simp [q]
          refine ite2 (fun q => ?_) fun q => ?_
          · have q : (e n : Int) < tall := of_decide_eq_true q
            rw [if_pos q] at hstep
            refine ⟨_, e9, ?_, hL, ?_, l ++ [n], by rw [upd_same]; simp, by rw [hl9, hstep]⟩
            · rw [List.length_map, hl9]
              refine Nat.lt_of_le_of_lt (List.length_filter_le _ _) ?_
              rw [List.length_take]; simp only [List.length_cons, htl]; omega
            · intro b o eb
              rw [upd_ne (ne_of_none eb hL)]; exact k9 b o eb
          · have q : ¬ (e n : Int) < tall := fun z => q (decide_eq_true z)
            rw [if_neg q, List.append_nil] at hstep
            exact ⟨hL, k9, l, e9, by rw [hl9, hstep]⟩
        · rintro L H9 hL8 ⟨hL, k9, l, e9, hl9⟩
          walk_at "rd"
          refine ⟨k9 _ _ e8, ?_⟩
          generalize hG2 : upd H9 d _ = H10
          obtain ⟨k10, e10⟩ := gen_chg hG2
          have hLd : d ≠ L := ne_of_none e8 hL8
          have k710 : ∀ b o, H7 b = some o → H10 b = some o := fun b o eb => by
            by_cases q : b = d
            · subst q
              rw [e10, ← eb]; exact w.w.kids.dict.symm ▸ rfl
            · exact k10 _ _ (k9 _ _ (k8 _ _ eb q)) q
          have dk10 : Dk a H H10 := ⟨fun b o eb nb => k710 _ _ (k7.keep _ _ eb nb), by obtain ⟨u1, u2, u3, u4⟩ := k7.deck; exact ⟨u1, u2, u3, k710 _ _ u4⟩⟩
          have w10 : Tall K H10 d dd tall (zs.take i) g at_ f e := ⟨⟨w.w.kids.kp k710, w.w.top, w.w.rep, w.w.perm, w.w.named⟩, k710 _ _ w.deep, w.dep, w.e0, w.le⟩
          have l10 := k10 _ _ e9 hLd.symm
          have hLa : L ≠ a := fun z => by
            obtain ⟨u1, u2, u3, u4⟩ := k7.deck
            rw [z, k8 _ _ u4 hda.symm] at hL8; cases hL8
          rw [kvs_len, List.take_length] at hl9
          have hpos : 0 < l.length := by
            have : ("" : Str) ∈ l := by
              rw [hl9, List.mem_filter]
              exact ⟨List.mem_cons_self .., decide_eq_true (by rw [w.e0]; omega)⟩
            exact List.length_pos_of_mem this
          have hlle : l.length ≤ 301 := by
            rw [hl9]
            refine Nat.le_trans (List.length_filter_le _ _) ?_
            simp only [List.length_cons, htl]; omega
          refine ⟨L, _, rfl, .inl (SqL.of l10), ?_⟩
          simp only [List.length_map]
          refine o_draw dk10.deck (by omega) (by omega) fun c H11 c0 c1 k11 => ?_
          obtain ⟨ov, hov2⟩ : ∃ ov, l[c.toNat]? = some ov := ⟨_, List.getElem?_eq_getElem (by omega)⟩
          refine o_ixL (k11.keep _ _ l10 hLa) (v := .str ov) (at_of (j := c.toNat) (by omega) (by rw [List.getElem?_map, hov2]; rfl)) ?_
          have hm := List.mem_of_getElem? hov2
          rw [hl9, List.mem_filter] at hm
          obtain ⟨hm1, hm2⟩ := hm
          refine ⟨dk10.trans k11, ov, _, _, _, ⟨w10.w.deck k11 dk10.deck, k11.keep _ _ w10.deep hdda, w.dep, w.e0, w.le⟩, hm1, of_decide_eq_true hm2, fun q => ?_, rfl⟩
          omega
      · have hlt : ¬ tall ≤ 0 + (i : Int) := fun z => hlt (decide_eq_true z)
        have := hov (by omega)
        exact ⟨k7, over, _, _, _, w, ho, by omega, fun _ => this, rfl⟩
    · rintro σ' H8 ⟨k8, over, y8, y9, y10, w8, ho8, he8, hi8, rfl⟩
      refine tall_r1 k8.deck hda hdda w8 hnew ho8 he8 (by omega) fun H9 g' at' f' e' y9 k9 d9 hat9 w9 hex => ?_
      refine ⟨⟨fun b o eb nb => k9 _ _ (k8.keep _ _ eb nb) nb (ne_of_none eb hdn) (ne_of_none eb hdd0) (fun z => ?_), d9⟩, g', at', f', e', z, _, _, _, _, _, ?_, ?_, ?_, ?_, rfl⟩
      · rw [z, hat over ho8] at eb; cases eb
      · rw [List.take_add_one, hzz]; exact w9
      · intro n hn
        rw [List.take_add_one, hzz] at hn
        rcases hat9 n hn with ⟨y, q⟩ | q
        · rw [q]; exact hat n y
        · cases u : H (at' n) with
          | none => rfl
          | some o =>
            by_cases ua : at' n = a
            · obtain ⟨u1, u2, u3, u4⟩ := k8.deck
              rw [ua, u4] at q; cases q
            · rw [k8.keep _ _ u ua] at q; cases q
      · rw [List.take_add_one, hzz]
        exact List.mem_cons_of_mem _ (List.mem_append_right _ (List.mem_singleton.mpr rfl))
      · intro q
        rw [hex, hi8 (by omega)]
  · rintro σ H7 ⟨k7, g, at_, f, e, over, y6, y7, y8, y9, y10, w, hat, ho, hov, rfl⟩
    rw [List.take_length] at w
    walk_at "rd"
    have hpl := w.w.perm.length_eq
    have hdp := w.dep.dp (t := tall.toNat) (fun n hn => by have := w.le n (List.mem_cons_of_mem _ (w.w.perm.mem_iff.mp hn)); omega) (Nat.zero_le _)
    refine ⟨d, ("" : Str), _, g, at_, f, rfl, w.w.kids, List.mem_cons_self .., w.w.top, w.w.rep, fun x hx => List.mem_cons_of_mem _ (w.w.perm.mem_iff.mp hx), by show f.dp ≤ 120; omega, by omega, fun p H8 k8 hw => ?_⟩
    obtain ⟨u1, u2, u3, u4⟩ := k7.deck
    exact q p H8 f ⟨fun b o e nb => k8 _ _ (k7.keep _ _ e nb), u1, u2, u3, k8 _ _ u4⟩ hw w.w.perm (by omega)
end
end Tw
set_option Elab.async false
set_option linter.all false
set_option maxRecDepth 100000
set_option maxHeartbeats 4000000
namespace Tw
open PySem PySem.Spec PyProof.Rows L2 TL
local macro_rules | `(tactic| walk_at "rd") => `(tactic| try simp only [o_op, o_un, o_var, o_c, o_cb, o_call, o_cons, o_nil, o_tup, o_lst, o_I0, o_I, o_int1, o_intb, o_abs, o_test, o_b, o_not, o_and, o_or, o_andV, o_orV, o_notV, o_ifE, o_isN, o_notN, o_eq, o_ne, o_seq, o_next, o_asg, o_name, o_sub, o_par, o_par3, o_drop, o_ret, o_retN, o_ifS, o_sl, o_noPart, o_part, o_bm, o_bm0, o_m0, o_m1, o_dget, o_dput, o_din, o_dnotin, o_listKeys, e_bl, e_int, e_str, e_some, e_two, e_three, o_for, o_lc, o_iList, o_iTup, o_iRng1, e_int1, e_ref, o_yes, o_wipe0, o_wipe1, o_disp, o_dnew, o_pairs0, o_pairs1, o_lock, o_keysM, o_gtup, o_gcons, o_gnil, true_and, if_pos, List.getElem?_cons_zero, List.getElem?_cons_succ, List.set_cons_zero, List.set_cons_succ, List.append_nil])
/-- a wood as the laws draw it -/
structure Good (f : Fo) : Prop where
  nd : f.nm.Nodup
  nms : ∀ z ∈ f.nm, IsName z
  sz : f.nm.length ≤ 120
  dp : f.dp ≤ 40
def sp_l_wood_and_names (K : PySem.W.Frag) : Sp := fun vs H Q _ => ∃ (a : Addr) (more : Int), vs = [.ref a, .int more] ∧ DeckAt H a ∧ 0 ≤ more ∧ more ≤ 100 ∧
  ∀ (p wp np : Addr) (f : Fo) (rest : List Str) (H' : Hp), Dk a H H' → H' p = some (.lst [.ref wp, .ref np]) → WoodAt K H' wp f → H' np = some (.lst (rest.map V.str)) → Good f → (f.nm ++ rest).Nodup → (∀ z ∈ rest, IsName z) → (rest.length : Int) = more → Q (.ref p) H'
def sp_l_some_wood (K : PySem.W.Frag) : Sp := fun vs H Q _ => ∃ (a : Addr), vs = [.ref a] ∧ DeckAt H a ∧ ∀ (wp : Addr) (f : Fo) (H' : Hp), Dk a H H' → WoodAt K H' wp f → Good f → Q (.ref wp) H'
/-- the promise of row, by the depth of the wood -/
def spR (K : PySem.W.Frag) : Nat → Sp
  | 0 => fun _ _ _ _ => False
  | m + 1 => fun vs H Q _ => ∃ (a : Addr) (f : Fo), vs = [.ref a] ∧ WoodAt K H a f ∧ f.dp ≤ m ∧ f.nm.length ≤ 1000 ∧ (∀ z ∈ f.nm, z.length ≤ 100) ∧ ∀ (p : Addr) (H' : Hp), Kp H H' → SqT K H' p (f.row.map V.str) → Q (.ref p) H'
def t_l_wood_and_names (K : PySem.W.Frag) : TS :=
  (tSeq (tIfS (tTest (tOp rEq (tCall sp_l_draw [] E0 (tCons (tVar 0) (tCons (tC (.int 8)) tNil))) (tC (.int 3)))) (tSeq (tAsg (tOp (rI0 fun i j => .int (i + j)) (tC (.int 1)) (tCall sp_l_draw [] E0 (tCons (tVar 0) (tCons (tC (.int 40)) tNil)))) (gName 2))
  (tSeq (tAsg (tOp (rI0 fun i j => .int (i + j)) (tVar 2) (tCall sp_l_draw [] E0 (tCons (tVar 0) (tCons (tOp (rI0 fun i j => .int (i - j)) (tC (.int 121)) (tVar 2)) tNil)))) (gName 3))
  (tSeq (tAsg (tCall sp_l_names [] E0 (tCons (tVar 0) (tCons (tOp (rI0 fun i j => .int (i + j)) (tVar 3) (tVar 1)) tNil))) (gName 4))
  (tRet (tLst (tCons (tCall (sp_l_tall_wood K) [] E0 (tCons (tVar 0) (tCons (L2.tSl (rSlL K) (tVar 4) tNoPart (tPart (tVar 3))) (tCons (tVar 2) tNil)))) (tCons (L2.tSl (rSlL K) (tVar 4) (tPart (tVar 3)) tNoPart) tNil))))))) tNext)
  (tSeq (tAsg (tCall sp_l_draw [] E0 (tCons (tVar 0) (tCons (tC (.int 13)) tNil))) (gName 3))
  (tSeq (tAsg (tCall sp_l_names [] E0 (tCons (tVar 0) (tCons (tOp (rI0 fun i j => .int (i + j)) (tVar 3) (tVar 1)) tNil))) (gName 4))
  (tRet (tLst (tCons (tCall (sp_l_wood K) [] E0 (tCons (tVar 0) (tCons (L2.tSl (rSlL K) (tVar 4) tNoPart (tPart (tVar 3))) tNil))) (tCons (L2.tSl (rSlL K) (tVar 4) (tPart (tVar 3)) tNoPart) tNil)))))))
def t_l_some_wood (K : PySem.W.Frag) : TS :=
  (tRet (tOp (rIxL K) (tCall (sp_l_wood_and_names K) [] E0 (tCons (tVar 0) (tCons (tC (.int 0)) tNil))) (tC (.int 0))))
def t_l_row_b1 (K : PySem.W.Frag) (rec : Sp) : TS :=
  (tAsg (tOp (rCatA K) (tOp (rCatA K) (tOp (rCatA K) (tVar 1) (tTup (tCons (tOp rAddStr (tC (.str "+")) (tVar 2)) tNil))) (tCall rec [] E0 (tCons (tVar 3) tNil))) (tTup (tCons (tOp rAddStr (tC (.str "-")) (tVar 2)) tNil))) (gName 1))
def t_l_row (K : PySem.W.Frag) (rec : Sp) : TS :=
  (tSeq (tAsg (tTup tNil) (gName 1))
  (tSeq (tFor (iTup K (tVar 0)) (gTup K 2 (gCons (gName 2) (gCons (gName 3) gNil)))
  (t_l_row_b1 K rec))
  (tRet (tVar 1))))
section
variable {K : PySem.W.Frag}
theorem len_l_wood_and_names (vs : List V) (H : Hp) (Q : VK) (E : XK) (h : sp_l_wood_and_names K vs H Q E) : vs.length = 2 := by
  obtain ⟨_, _, rfl, _⟩ := h
  rfl
theorem len_l_some_wood (vs : List V) (H : Hp) (Q : VK) (E : XK) (h : sp_l_some_wood K vs H Q E) : vs.length = 1 := by
  obtain ⟨_, rfl, _⟩ := h
  rfl
theorem len_spR {m : Nat} (vs : List V) (H : Hp) (Q : VK) (E : XK) (h : spR K m vs H Q E) : vs.length = 1 := by
  cases m with
  | zero => exact False.elim h
  | succ m =>
    obtain ⟨_, _, rfl, _⟩ := h
    rfl
theorem pure_l_some_wood (vs : List V) (H : Hp) (Q : VK) (E : XK) (h : sp_l_some_wood K vs H Q E) : t_l_some_wood K { nx := fun _ H' => Q .non H', rt := Q } (startN 1 vs) H := by
  obtain ⟨a, rfl, hd, q⟩ := h
  show t_l_some_wood K _ [some (.ref a)] H
  unfold t_l_some_wood
  walk_at "rd"
  refine ⟨a, 0, rfl, hd, by decide, by decide, fun p wp np f rest H1 k1 hp hw _ hg _ _ _ => ?_⟩
  exact o_ixL hp rfl (q wp f H1 k1 hw hg)
theorem cut_lo (l : List Str) {k : Int} (h0 : 0 ≤ k) (h1 : k ≤ l.length) : cutV (l.map V.str) none (some k) = (l.take k.toNat).map V.str := by
  rw [cutV_str, show (some k) = some ((k.toNat : Nat) : Int) from by rw [Int.toNat_of_nonneg h0], HT.sIx_none, HT.sIx_nat, Nat.min_eq_left (by omega)]; simp
theorem cut_hi (l : List Str) {k : Int} (h0 : 0 ≤ k) (h1 : k ≤ l.length) : cutV (l.map V.str) (some k) none = (l.drop k.toNat).map V.str := by
  rw [cutV_str, show (some k) = some ((k.toNat : Nat) : Int) from by rw [Int.toNat_of_nonneg h0], HT.sIx_none, HT.sIx_nat, Nat.min_eq_left (by omega)]
  congr 1
  rw [List.take_of_length_le]; simp
theorem o_names {a : Addr} {n : Int} {H : Hp} {Q : VK} {E : XK} (hd : DeckAt H a) (h0 : 0 ≤ n) (h1 : n ≤ 300) (q : ∀ (p : Addr) (zs : List Str) (H' : Hp), H p = none → Dk a H H' → H' p = some (.lst (zs.map V.str)) → (zs.length : Int) = n → zs.Nodup → (∀ z ∈ zs, IsName z) → Q (.ref p) H') : sp_l_names [.ref a, .int n] H Q E := ⟨a, n, rfl, hd, h0, h1, q⟩
theorem split_nd {α : Type} {zs l : List α} {k : Nat} (h : zs.Nodup) (p : l.Perm (zs.take k)) : (l ++ zs.drop k).Nodup :=
  ((p.append_right _).trans (by rw [List.take_append_drop])).nodup_iff.mpr h
theorem pure_l_wood_and_names (vs : List V) (H : Hp) (Q : VK) (E : XK) (h : sp_l_wood_and_names K vs H Q E) : t_l_wood_and_names K { nx := fun _ H' => Q .non H', rt := Q } (startN 5 vs) H := by
  obtain ⟨a, more, rfl, hd, hm0, hm1, q⟩ := h
  show t_l_wood_and_names K _ [some (.ref a), some (.int more), none, none, none] H
  unfold t_l_wood_and_names
  walk_at "rd"
  refine o_draw hd (by decide) (by decide) fun c H1 _ _ k1 => ?_
  refine ⟨rfl, ite2 (fun _ => ?_) fun _ => ?_⟩
  · refine o_draw k1.deck (by decide) (by decide) fun t H2 t0 t1 k2 => ?_
    walk_at "rd"
    refine o_draw k2.deck (by omega) (by omega) fun m H3 m0 m1 k3 => ?_
    walk_at "rd"
    refine o_names k3.deck (by omega) (by omega) fun ns zs H4 hns k4 hz hzl nd hnm => ?_
    have k04 := ((k1.trans k2).trans k3).trans k4
    refine ⟨ns, _, rfl, SqL.of hz, fun p1 hp1 => ?_⟩
    generalize hG : upd H4 p1 _ = H5
    obtain ⟨k5, e5⟩ := gen_new hp1 hG
    clear hG
    rw [cut_lo zs (by omega) (by omega)] at e5
    have hp1a : p1 ≠ a := deck_ne k4.deck hp1
    have hnsa : ns ≠ a := deck_ne k3.deck hns
    obtain ⟨x0, y0, z0, da⟩ := k4.deck
    refine ⟨a, p1, _, 1 + t, rfl, ⟨x0, y0, z0, k5 _ _ da⟩, SqL.of e5, hp1a, nd.sublist (List.take_sublist ..), fun z hz => hnm z (List.mem_of_mem_take hz), by rw [List.length_take]; omega, by omega, by omega, fun wp H6 f k6 hw hpm hdp => ?_⟩
    refine ⟨ns, _, rfl, SqL.of (k6.keep _ _ (k5 _ _ hz) hnsa), fun p2 hp2 => ?_⟩
    generalize hG : upd H6 p2 _ = H7
    obtain ⟨k7, e7⟩ := gen_new hp2 hG
    clear hG
    rw [cut_hi zs (by omega) (by omega)] at e7
    walk_at "rd"
    refine ⟨by show 2 ≤ sizeLine; decide, fun p hp => ?_⟩
    generalize hG : upd H7 p _ = H8
    obtain ⟨k8, e8⟩ := gen_new hp hG
    clear hG
    obtain ⟨x6, y6, z6, da6⟩ := k6.deck
    have hlen := hpm.length_eq
    rw [List.length_take] at hlen
    refine q p wp p2 f (zs.drop (1 + t + m).toNat) H8 ⟨fun b o e nb => k8 _ _ (k7 _ _ (k6.keep _ _ (k5 _ _ (k04.keep _ _ e nb)) nb)), x6, y6, z6, k8 _ _ (k7 _ _ da6)⟩ e8 (hw.mono (Tk.kp fun b o e => k8 _ _ (k7 _ _ e))) (k8 _ _ e7) ⟨hpm.nodup_iff.mpr (nd.sublist (List.take_sublist ..)), fun z hz => hnm z (List.mem_of_mem_take (hpm.mem_iff.mp hz)), by omega, by omega⟩ (split_nd nd hpm) (fun z hz => hnm z (List.mem_of_mem_drop hz)) ?_
    rw [List.length_drop]; omega
  · refine o_draw k1.deck (by decide) (by decide) fun m H3 m0 m1 k3 => ?_
    walk_at "rd"
    refine o_names k3.deck (by omega) (by omega) fun ns zs H4 hns k4 hz hzl nd hnm => ?_
    have k04 := (k1.trans k3).trans k4
    refine ⟨ns, _, rfl, SqL.of hz, fun p1 hp1 => ?_⟩
    generalize hG : upd H4 p1 _ = H5
    obtain ⟨k5, e5⟩ := gen_new hp1 hG
    clear hG
    rw [cut_lo zs (by omega) (by omega)] at e5
    have hp1a : p1 ≠ a := deck_ne k4.deck hp1
    have hnsa : ns ≠ a := deck_ne k3.deck hns
    obtain ⟨x0, y0, z0, da⟩ := k4.deck
    refine ⟨a, p1, _, rfl, ⟨x0, y0, z0, k5 _ _ da⟩, SqL.of e5, hp1a, nd.sublist (List.take_sublist ..), fun z hz => hnm z (List.mem_of_mem_take hz), by rw [List.length_take]; omega, fun wp H6 f k6 hw hpm => ?_⟩
    refine ⟨ns, _, rfl, SqL.of (k6.keep _ _ (k5 _ _ hz) hnsa), fun p2 hp2 => ?_⟩
    generalize hG : upd H6 p2 _ = H7
    obtain ⟨k7, e7⟩ := gen_new hp2 hG
    clear hG
    rw [cut_hi zs (by omega) (by omega)] at e7
    walk_at "rd"
    refine ⟨by show 2 ≤ sizeLine; decide, fun p hp => ?_⟩
    generalize hG : upd H7 p _ = H8
    obtain ⟨k8, e8⟩ := gen_new hp hG
    clear hG
    obtain ⟨x6, y6, z6, da6⟩ := k6.deck
    have hlen := hpm.length_eq
    rw [List.length_take] at hlen
    refine q p wp p2 f (zs.drop m.toNat) H8 ⟨fun b o e nb => k8 _ _ (k7 _ _ (k6.keep _ _ (k5 _ _ (k04.keep _ _ e nb)) nb)), x6, y6, z6, k8 _ _ (k7 _ _ da6)⟩ e8 (hw.mono (Tk.kp fun b o e => k8 _ _ (k7 _ _ e))) (k8 _ _ e7) ⟨hpm.nodup_iff.mpr (nd.sublist (List.take_sublist ..)), fun z hz => hnm z (List.mem_of_mem_take (hpm.mem_iff.mp hz)), by omega, by have := Fo.dp_le f; omega⟩ (split_nd nd hpm) (fun z hz => hnm z (List.mem_of_mem_drop hz)) ?_
    rw [List.length_drop]; omega
/-! ### the law's row -/
theorem o_cat {a b : Addr} {xs ys : List V} {H : Hp} {Q : VK} (h1 : SqT K H a xs) (h2 : SqT K H b ys) (hl : xs.length + ys.length ≤ sizeLine) (q : ∀ (p : Addr) (H' : Hp), Kp H H' → SqT K H' p (xs ++ ys) → Q (.ref p) H') : rCatA K (.ref a) (.ref b) H Q := by
  refine ⟨a, b, xs, ys, rfl, rfl, h1, h2, hl, fun e => ?_, fun _ e => ?_, fun _ _ p hp => ?_⟩
  · exact q b H (fun _ _ h => h) (by rw [e]; exact h2)
  · exact q a H (fun _ _ h => h) (by rw [e, List.append_nil]; exact h1)
  · exact q p _ (Kp.new (fun _ _ h => h) hp) (SqT.of upd_same)
theorem Rp.at {H : Hp} : ∀ {i : Nat} {vs : List V} {f : Fo} {x : V}, Rp K H vs f → vs[i]? = some x → ∃ (t k : Addr) (n : Str) (kvs : List V) (ks r : Fo), x = .ref t ∧ f.fdrop i = .cons n ks r ∧ SqT K H t [.str n, .ref k] ∧ SqT K H k kvs ∧ Rp K H kvs ks
  | _, _, _, _, .nil, h => by simp at h
  | 0, _, _, x, .cons (t := t) (k := k) (n := n) (kvs := kvs) (ks := ks) (r := r) a b c _, h => by
    have e : V.ref t = x := by simpa using h
    exact ⟨t, k, n, kvs, ks, r, e.symm, rfl, a, b, c⟩
  | i + 1, _, _, x, .cons _ _ _ d, h => Rp.at (i := i) d (by simpa using h)
theorem row_take {n : Str} {ks r : Fo} : ∀ {i : Nat} {f : Fo}, f.fdrop i = .cons n ks r → (f.ftake (i + 1)).row = (f.ftake i).row ++ [Fo.plus n] ++ ks.row ++ [Fo.minus n]
  | 0, f, e => by
    have e2 : f = .cons n ks r := e
    subst e2
    simp [Fo.ftake, Fo.row]
  | i + 1, .nil, e => by cases e
  | i + 1, .cons m ks' r', e => by
    have h := row_take (i := i) (f := r') e
    simp only [Fo.ftake, Fo.row] at h ⊢
    rw [h]; simp
theorem row_len : ∀ f : Fo, f.row.length = 2 * f.nm.length
  | .nil => rfl
  | .cons n ks r => by simp only [Fo.row, Fo.nm, List.length_cons, List.length_append, row_len ks, row_len r]; omega
theorem nm_take_le {i : Nat} {f : Fo} : (f.ftake i).nm.length ≤ f.nm.length := by
  have := Fo.nm_split i f
  rw [this, List.length_append]; omega
theorem pure_l_row {m : Nat} (vs : List V) (H : Hp) (Q : VK) (E : XK) (h : spR K (m + 1) vs H Q E) : t_l_row K (spR K m) { nx := fun _ H' => Q .non H', rt := Q } (startN 4 vs) H := by
  obtain ⟨a, f, rfl, hw, hdp, hsz, hnm, q⟩ := h
  show t_l_row K _ _ [some (.ref a), none, none, none] H
  unfold t_l_row
  have hz := sizeLine_eq
  walk_at "rd"
  refine ⟨Nat.zero_le _, fun p0 hp0 => ?_⟩
  generalize hG : upd H p0 _ = H1
  obtain ⟨k1, e1⟩ := gen_new hp0 hG
  clear hG
  walk_at "rd"
  obtain ⟨ws, hws, rp⟩ := hw
  refine ⟨⟨_, Tk.kp k1 _ _ hws⟩, ?_⟩
  refine fb_tup (xs := ws) (fun i σ H2 => Kp H H2 ∧ ∃ p x y, SqT K H2 p ((f.ftake i).row.map V.str) ∧ σ = [some (.ref a), some (.ref p), x, y]) ?_ ?_ ?_ ?_
  · exact ⟨k1, p0, _, _, SqT.of e1, rfl⟩
  · rintro i σ H2 _ ⟨k2, _⟩
    exact Tk.kp k2 _ _ hws
  · rintro i x σ H2 hx ⟨k2, p, y1, y2, hp, rfl⟩
    obtain ⟨t, k, n, kvs, ks, r, rfl, hf, ht, hk, hr⟩ := rp.at hx
    have hg : f.Rep (fun _ => []) ∨ True := .inr trivial
    walk_at "rd"
    refine ⟨t, _, rfl, Tk.kp k2 _ _ ht, rfl, _, _, rfl, _, _, rfl, rfl, ?_⟩
    have hin := drop_in hf
    have hn100 := hnm n hin.1
    have hlen1 : ((f.ftake i).row.map V.str).length ≤ 2000 := by
      rw [List.length_map, row_len]; have := nm_take_le (i := i) (f := f); omega
    have hlen2 : (ks.row.map V.str).length ≤ 2000 := by
      rw [List.length_map, row_len]; have := hin.2.2.2; omega
    unfold t_l_row_b1
    walk_at "rd"
    have l1 : (("+" : Str)).length = 1 := by decide +kernel
    have l2 : (("-" : Str)).length = 1 := by decide +kernel
    refine ⟨_, _, rfl, rfl, by omega, by show 1 ≤ sizeLine; omega, fun p1 hp1 => ?_⟩
    generalize hG : upd H2 p1 _ = H3
    obtain ⟨k3, e3⟩ := gen_new hp1 hG
    clear hG
    refine o_cat (Tk.kp k3 _ _ hp) (SqT.of e3) (by simp only [List.length_cons, List.length_nil]; omega) fun p2 H4 k4 h4 => ?_
    cases m with
    | zero => have := hin.2.1; omega
    | succ m =>
      have k24 : Kp H2 H4 := fun b o e => k4 _ _ (k3 _ _ e)
      have k04 : Kp H H4 := fun b o e => k24 _ _ (k2 _ _ e)
      refine ⟨k, ks, rfl, ⟨kvs, Tk.kp k04 _ _ hk, hr.mono (Tk.kp k04)⟩, by have := hin.2.1; omega, by have := hin.2.2.2; omega, fun z hz => hnm z (hin.2.2.1 z hz), fun p5 H5 k5 h5 => ?_⟩
      refine o_cat (Tk.kp k5 _ _ h4) h5 (by simp only [List.length_cons, List.length_nil, List.length_append]; omega) fun p6 H6 k6 h6 => ?_
      refine ⟨_, _, rfl, rfl, by omega, by show 1 ≤ sizeLine; omega, fun p7 hp7 => ?_⟩
      generalize hG : upd H6 p7 _ = H7
      obtain ⟨k7, e7⟩ := gen_new hp7 hG
      clear hG
      refine o_cat (Tk.kp k7 _ _ h6) (SqT.of e7) (by simp only [List.length_cons, List.length_nil, List.length_append]; omega) fun p8 H8 k8 h8 => ?_
      refine ⟨fun b o e => k8 _ _ (k7 _ _ (k6 _ _ (k5 _ _ (k04 _ _ e)))), p8, _, _, ?_, rfl⟩
      rw [row_take hf]
      simpa [Fo.plus, Fo.minus] using h8
  · rintro σ H2 ⟨k2, p, y1, y2, hp, rfl⟩
    walk_at "rd"
    rw [rp.len, ftake_all] at hp
    exact q p H2 k2 hp
where
  drop_in {n : Str} {ks r : Fo} : ∀ {i : Nat} {f : Fo}, f.fdrop i = .cons n ks r → n ∈ f.nm ∧ ks.dp + 1 ≤ f.dp ∧ (∀ z ∈ ks.nm, z ∈ f.nm) ∧ ks.nm.length ≤ f.nm.length
    | 0, f, e => by
      have e2 : f = .cons n ks r := e
      subst e2
      exact ⟨List.mem_cons_self .., by simp only [Fo.dp]; omega, fun x hx => List.mem_cons_of_mem _ (List.mem_append_left _ hx), by simp only [Fo.nm, List.length_cons, List.length_append]; omega⟩
    | i + 1, .nil, e => by cases e
    | i + 1, .cons m ks' r', e => by
      obtain ⟨h1, h2, h3, h4⟩ := drop_in (i := i) (f := r') e
      exact ⟨List.mem_cons_of_mem _ (List.mem_append_right _ h1), by simp only [Fo.dp]; omega, fun x hx => List.mem_cons_of_mem _ (List.mem_append_right _ (h3 x hx)), by simp only [Fo.nm, List.length_cons, List.length_append]; omega⟩
end
end Tw
set_option Elab.async false
set_option linter.all false
set_option maxRecDepth 100000
set_option maxHeartbeats 4000000
namespace PySem.AutoSeq1
open Sem (wp)
open Builtin
set_option maxRecDepth 8000 in
theorem tw_extend_tup (l : Addr) (items : Array Value) (n : Nat) (b : Addr) (items2 : Array Value) (n2 : Nat) (dd : Option Addr) (sl : Array (Option Value)) (hs0 : ¬(!items.isEmpty && Builtin.List.listTooLong (items.size + items2.size)) = true) (hs1 : items.size ≤ sizeLine) (hs2 : items.size + items2.size ≤ sizeLine + 1) :
    Meets (Builtin.«list.extend» ⟨[.ref l, .ref b], []⟩) (fun _ R s => s.heap.get? l = some { cls := .type "list", dict := none, data := .seq items n, slots := #[] } ∧ s.heap.get? b = some { cls := .type "tuple", dict := dd, data := .seq items2 n2, slots := sl } ∧ R (.ok (.ret Value.none)) { s with heap := s.heap.update l (Obj.mapSeq fun x => x ++ items2), toks := s.toks }) :=
  .of_wp fun prog w A R s h => by
    obtain ⟨hp, g, d, tk, os⟩ := s; obtain ⟨hl, hb, h⟩ := h; have f1 := idx_int; have f2 := sub_tuple_tuple; have f3 := sub_list_list; have f4 := sub_tuple_list; have f5 := sub_list_tuple;
    have hz' : (items ++ items2).size ≤ sizeLine + 1 := by rw [Array.size_append]; exact hs2
    wp_walk using (wpAny_updateSeq hl rfl (hz := hs1) (_hz' := hz')), wpAny_loadPart' hl, wpAny_loadPart' hb; exact ⟨_, rfl, h⟩
end PySem.AutoSeq1
namespace Tw
open PySem PySem.Spec PyProof.Rows HT L2
/-- xs.extend(t), t a tuple -/
def rExtendT (K : PySem.W.Frag) : V → List V → Hp → VK → Prop := fun x vs H Q => ∃ l b xs zs, x = .ref l ∧ vs = [.ref b] ∧ H l = some (.lst xs) ∧ SqT K H b zs ∧ xs.length + zs.length ≤ sizeLine ∧ Q .non (upd H l (.lst (xs ++ zs)))
section
variable {X : Cx}
theorem mt_extendT : MtM X "list.extend" (rExtendT X.K) := by
  intro pins s σ H x vs v us Q I rx rv h
  obtain ⟨l, b, xs, zs, rfl, rfl, hH, hB, hz, q⟩ := h
  cases rx
  obtain ⟨u, rfl, ru⟩ := rv.one
  cases ru
  obtain ⟨z, its, n, r, hl, e⟩ := I.lstM hH
  obtain ⟨its2, r2, ht2, hl2⟩ := I.tuple hB
  obtain ⟨⟨cls2, dd2, data2, sl2⟩, e2, hc2, n2, hd2⟩ := id ht2
  simp only at hc2 hd2
  subst hc2 hd2
  have hll := r.length
  have hll2 := r2.length
  have hsz : its.toArray.size + its2.toArray.size ≤ sizeLine := by rw [List.size_toArray, List.size_toArray]; omega
  have hlong : ¬ (!its.toArray.isEmpty && Builtin.List.listTooLong (its.toArray.size + its2.toArray.size)) = true := by
    rw [notLongL hsz, Bool.and_false]
    exact Bool.false_ne_true
  refine call_meets F.slot_list_extend ⟨_, e, rfl⟩ F.entry_list_extend (F.args_list_extend_2 _ _)
    (AutoSeq1.tw_extend_tup l its.toArray n b its2.toArray n2 dd2 sl2 hlong (by rw [List.size_toArray]; omega) (by omega)) ⟨e, e2, ?_⟩
  refine ⟨.non, _, I.lset (its' := its ++ its2) hH e (by simp) (r.append r2) ?_, rfl, q⟩
  rw [List.length_append]
  omega
end
end Tw
namespace Tw
open PySem PySem.Spec PyProof.Rows L2
section
open Sem (wp)
open AutoSeq1 (wpAny_loadPart')
theorem tw_enum_newT (l : Addr) (items : Array Value) :
    Meets (Builtin.«enumerate.__new__» ⟨[.type "enumerate", .ref l], []⟩) (fun _ R s => s.heap.IsTuple l items ∧
      R (.ok (.ret (.ref (s.heap.push { cls := .type "tuple_iterator", data := .fields #[.ref l, .int 0 0] }).objs.size)))
        { s with heap := (s.heap.push { cls := .type "tuple_iterator", data := .fields #[.ref l, .int 0 0] }).push { cls := .type "enumerate", data := .fields #[.none, .bool false, .ref s.heap.objs.size, rawInt 0, .none, .none] } }) :=
  .of_wp fun prog w A R s h => by
    obtain ⟨hp, g, d, tk, os⟩ := s; obtain ⟨hl, h⟩ := h
    have hsub := sub_enumerate
    have q1 : ∀ {A' : Around} {E : Value → Shared → Prop} {Q : Value → Shared → Prop}, Q (.ref hp.objs.size) ⟨hp.push { cls := .type "tuple_iterator", data := .fields #[.ref l, .int 0 0] }, g, d, tk, os⟩ → wpAny (model prog w) A' (pyIter (.ref l)) Q E ⟨hp, g, d, tk, os⟩ :=
      fun q => wpAny_pyIter_tuple (s := ⟨hp, g, d, tk, os⟩) hl q
    wp_walk using q1
    refine wpAny_stack_any fun st => wpAny_pure ?_
    split
    · rename_i c _ _ _ _ _
      cases (c == Value.type "enumerate")
      · wp_walk using q1
        exact ⟨_, rfl, h⟩
      · wp_walk using q1
        exact ⟨_, rfl, h⟩
    · wp_walk using q1
      exact ⟨_, rfl, h⟩
theorem tw_call_enumT {prog : Program} {w : World} {A : Around} {E : Value → Shared → Prop} {s : Shared} {l : Addr} {items : Array Value} {Q : Value → Shared → Prop} (hL : s.heap.IsTuple l items)
    (h : ∀ h', IsEnum h' (s.heap.objs.size + 1) s.heap.objs.size 0 .none → h'.IsTupleIter s.heap.objs.size l 0 → h'.objs.size = s.heap.objs.size + 2 →
      (∀ b o, s.heap.get? b = some o → h'.get? b = some o) → Q (.ref (s.heap.objs.size + 1)) { s with heap := h' }) :
    wpAny (model prog w) A (call (.type "enumerate") [.ref l]) Q E s := by
  refine callType_new F.called_enumerate (by decide) (F.typeCall_enumerate_1 _) (F.newCall_enumerate_1 _) (fun obj => F.args_object_init_2 obj _) F.entry_enumerate_new
    (tw_enum_newT l items) ⟨hL, ?_⟩
  have hz : (s.heap.push { cls := .type "tuple_iterator", data := .fields #[.ref l, .int 0 0] }).objs.size = s.heap.objs.size + 1 := Heap.size_push ..
  show _ ∧ _
  rw [hz]
  have he : IsEnum ((s.heap.push { cls := .type "tuple_iterator", data := .fields #[.ref l, .int 0 0] }).push
      { cls := .type "enumerate", data := .fields #[.none, .bool false, .ref s.heap.objs.size, rawInt 0, .none, .none] }) (s.heap.objs.size + 1) s.heap.objs.size 0 .none := by
    have := Heap.get?_push_size (s.heap.push { cls := .type "tuple_iterator", data := .fields #[.ref l, .int 0 0] })
      (o := { cls := .type "enumerate", data := .fields #[.none, .bool false, .ref s.heap.objs.size, rawInt 0, .none, .none] }) rfl
    rw [hz] at this; exact this
  refine ⟨⟨_, he, rfl⟩, h _ he ⟨_, Heap.get?_push_of_some _ (Heap.get?_push_size _ rfl), rfl, rfl⟩ (by rw [Heap.size_push, hz]) fun b o x => Heap.get?_push_of_some _ (Heap.get?_push_of_some _ x)⟩
end
/-- enumerate of a tuple: a new pair a turn -/
def IteT (K : PySem.W.Frag) (a : Addr) : It :=
  ⟨fun i H => ∃ (xs : List V) (x : V), SqT K H a xs ∧ xs[i]? = some x, fun i H v H' => ∃ T x, v = .ref T ∧ H T = none ∧ H' = upd H T (.tup [.int (i : Nat), x]) ∧ ∀ xs, SqT K H a xs → xs[i]? = some x, fun i H => ∃ xs : List V, SqT K H a xs ∧ xs.length = i⟩
theorem turn_enumT {P : Program} {w : World} {K : PySem.W.Frag} {elts : List Expr} {kk : Nat} {tpos : Pos} (a e it : Addr) :
    Turn P w K (.Tuple elts kk tpos) (IteT K a) [e, it] e (fun i h => (∃ old, IsEnum h e it ((i : Nat) : Int) old) ∧ h.IsTupleIter it a i ∧ e ≠ it ∧ a ≠ it ∧ a ≠ e) where
  mem := by simp
  obj := fun i h st b hb => by
    obtain ⟨⟨old, he⟩, ⟨o, ho, hc, hd⟩, _⟩ := st
    have e' : b = e ∨ b = it := by simpa using hb
    rcases e' with z | z
    · rw [z]; exact ⟨_, he, fun v q => nomatch q⟩
    · rw [z]; exact ⟨o, ho, fun v q => by rw [hd] at q; cases q⟩
  keep := fun i h h' st k => let ⟨⟨old, he⟩, hi, hne⟩ := st; ⟨⟨old, k e (by simp) _ he⟩, hi.at fun o q => k it (by simp) o q, hne⟩
  item := by
    intro X hP hw hK hc i pins s σ H E I hf st hg
    subst hP hw hK
    obtain ⟨⟨old, he⟩, hit, hne, hat, hae⟩ := st
    obtain ⟨xs, x, hq, hx⟩ := hg
    obtain ⟨its, rv, p, hz⟩ := I.tuple hq
    obtain ⟨u0, hu0, ru0⟩ := rv.get hx
    have hel : e < s.heap.objs.size := Heap.lt_size he
    have hil : it < s.heap.objs.size := by obtain ⟨_, q, _⟩ := hit; exact Heap.lt_size q
    have hlt : i < its.toArray.size := by
      rw [List.size_toArray]
      exact (List.getElem?_eq_some_iff.mp hu0).1
    refine wpAny_pyNext_enum_itemD (Draws.tuple (A := X.A.in1) (I.ok.hd hc) it a hat its.toArray) he ⟨hit, p⟩ hlt hne (by simp [hne, hae.symm]) fun u h' tk hPx ho hit' hT hsz hk => ?_
    have eu : u0 = u := by
      have h1 : its[i]? = some u := by simpa using hPx
      rw [hu0] at h1; exact Option.some.inj h1
    subst eu
    refine ⟨_, rfl, wpAny_letOwnedTupleGo_enum (s := { s with heap := h', toks := tk + 1 }) ho fun h'' he' sb => ?_⟩
    have hT2 : h''.get? s.heap.objs.size = some { cls := .type "tuple", data := .seq #[.int i tk, u0] } := (sb.2 _ (Nat.ne_of_gt hel)).trans hT
    have new : ObjOk X.prog X.w (upd H s.heap.objs.size (.tup [.int (i : Nat), x])) h'' s.heap.objs.size (.tup [.int (i : Nat), x]) :=
      ⟨by show 2 ≤ sizeLine; decide, [.int i tk, u0], .cons ⟨_, rfl⟩ (.cons ru0 .nil), ⟨_, hT2, rfl, _, rfl⟩⟩
    have I1 : Inv X pins σ (upd H s.heap.objs.size (.tup [.int (i : Nat), x])) { s with heap := h'', toks := tk + 1 } :=
      I.turnedNew (ch := [e, it]) (fun b ob hb q => (sb.2 b (fun z => hb (by simp [z]))).trans (hk b ob (fun z => hb (by simp [z])) (fun z => hb (by simp [z])) q)) hf (Nat.le_refl _) new
    refine ⟨.ref s.heap.objs.size, _, I1, rfl, ⟨_, x, rfl, I.hok.fresh (Nat.le_refl _), rfl, fun ys hy => by rw [I.tuple_inj hy hq]; exact hx⟩, ⟨⟨u0, ?_⟩, hit'.1.at fun o q => (sb.2 it (Ne.symm hne)).trans q, hne, hat, hae⟩, fun b hb => ?_⟩
    · have e1 : ((i + 1 : Nat) : Int) = (i : Int) + 1 := by omega
      rw [e1]; exact he'
    · have hb' : b < s.heap.objs.size := by
        have e' : b = e ∨ b = it := by simpa using hb
        rcases e' with z | z
        · rw [z]; exact hel
        · rw [z]; exact hil
      rw [upd_ne (Nat.ne_of_lt hb')]
      exact (hf b hb).1
  done := by
    intro X hP hw hK hc i pins s σ H E I hf st hg
    subst hP hw hK
    obtain ⟨⟨old, he⟩, hit, hne, hat, hae⟩ := st
    obtain ⟨xs, hq, hx⟩ := hg
    obtain ⟨its, rv, p, hz⟩ := I.tuple hq
    obtain ⟨f0, f1, f2, f3, f4, f5⟩ := hf it (by simp)
    have hl := rv.length
    subst hx
    exact wpAny_pyNext_enum_endD (Draws.tuple (A := X.A.in1) (I.ok.hd hc) it a hat its.toArray) he ⟨by rw [List.size_toArray, ← hl]; exact hit, p⟩ fun h' eb => ⟨rfl, I.turned (t' := s.toks) (fun b o hb q => eb b o hb q) f0 f1 f3 f4 f5⟩
  self := fun A i s Q E st h => let ⟨⟨_, he⟩, _⟩ := st; wpAny_pyIter_enum he h
end Tw
namespace Tw
open PySem PySem.Spec PyProof.Rows L2 HT
section
variable {X : Cx}
theorem pi_enumT {e : Expr} {ta : TA} {p pos tpos : Pos} {elts : List Expr} {kk : Nat} (hg : Gl X "enumerate") (hm : X.mg "enumerate" = none) (ha : PA X [e] ta) (hs : starEach [e] X.env = [(false, eval e X.env)] := by rfl) :
    PI X (.Tuple elts kk tpos) (.Call (.Name "enumerate" p) [e] [] pos) (fun σ H R => ta σ H fun vs H1 => ∃ a xs, vs = [.ref a] ∧ SqT X.K H1 a xs ∧ R (IteT X.K a) H1) := by
  refine ⟨fun pins s σ H R I h => ?_⟩
  refine Call_ (ld_blt I hg hm boot_enumerate (PyProof.Rows.callWith_type1 (thn (ha.run pos pins s σ H _ I h) fun us s1 ⟨vs, H1, I1, r1, q1⟩ => ?_) hs rfl))
  obtain ⟨a, xs, ex, hq, q⟩ := q1
  subst ex
  cases r1 with
  | cons r rr =>
    cases rr
    cases r
    obtain ⟨its, rv, p', hz⟩ := I1.tuple hq
    have hal : a < s1.heap.objs.size := p'.lt
    refine tw_call_enumT p' fun h' he hit hsz hk => wpAny_pyIter_enum he ?_
    have I2 : Inv X pins σ H1 { s1 with heap := h' } := I1.kept (t' := s1.toks) hk
    refine ⟨s1.heap.objs.size + 1, [s1.heap.objs.size + 1, s1.heap.objs.size], _, _, H1, rfl, I2, turn_enumT a (s1.heap.objs.size + 1) s1.heap.objs.size, ⟨⟨.none, he⟩, hit, Nat.succ_ne_self _, Nat.ne_of_lt hal, Nat.ne_of_lt (Nat.lt_succ_of_lt hal)⟩, fun b hb => ?_, q⟩
    have e' : b = s1.heap.objs.size + 1 ∨ b = s1.heap.objs.size := by simpa using hb
    have hle : s1.heap.objs.size ≤ b := by
      rcases e' with z | z
      · rw [z]; exact Nat.le_add_right _ _
      · rw [z]; exact Nat.le_refl _
    exact I1.fpOk hle (I1.hok.fresh hle)
end
def iEnumT (K : PySem.W.Frag) (ta : TA) : TI := fun σ H R => ta σ H fun vs H1 => ∃ a xs, vs = [.ref a] ∧ SqT K H1 a xs ∧ R (IteT K a) H1
theorem walk_enumT {K : PySem.W.Frag} {a : Addr} {xs : List V} : Walk (IteT K a) xs.length (fun H => SqT K H a xs) (YPair (fun i => some (.int (i : Nat))) (fun i => xs[i]?)) where
  goes := fun i H hi h => ⟨xs, xs[i], h, List.getElem?_eq_getElem hi⟩
  stops := fun H h => ⟨xs, h, rfl⟩
  yields := fun i H v H' hi h ⟨T, x, ev, hT, eH, hx⟩ => ⟨T, _, x, ev, hT, eH, rfl, hx xs h⟩
/-! ### xs[a:] = ys -/
section
variable {prog : Program} {w : World} {A : Around} {E : Value → Shared → Prop} {s : Shared}
theorem bounds_from {a n : Nat} (h : a ≤ n) : sliceBounds (some (a : Int)) none none n = ((a : Int), (n : Int), 1) := by
  simp only [sliceBounds, Option.getD_none]
  have h1 : ¬ ((a : Int) < 0) := by omega
  simp only [h1, if_false, show (1 : Int) > 0 by decide, if_true]
  congr 1
  omega
theorem setItem_from {l b sl : Addr} {items new : Array Value} {n n2 : Nat} {vl vu : Value} {a : Nat} {Q : Unit → Shared → Prop}
    (e : s.heap.get? l = some { cls := .type "list", data := .seq items n }) (e2 : s.heap.get? b = some { cls := .type "list", data := .seq new n2 }) (hne : l ≠ b)
    (hs : s.heap.IsSliceOf sl vl vu .none) (pl : IsPart vl (some (a : Int))) (pu : IsPart vu none) (hac : a ≤ items.size)
    (hsz : items.size + new.size ≤ sizeLine) (h : Q () { s with heap := s.heap.update l (Obj.mapSeq fun xs => xs.extract 0 a ++ new ++ xs.extract items.size xs.size) }) :
    wpAny (model prog w) A (setItem (.ref l) (.ref sl) (.ref b)) Q E s := by
  have hl : s.heap.IsList l items := PySem.IsL.isList e
  have hb : s.heap.IsList b new := PySem.IsL.isList e2
  obtain ⟨os, hos, hcs, hds⟩ := id hs
  have hTs : s.TypeIs (.ref sl) "slice" := ⟨os, hos, hcs⟩
  have hstep : ¬ ((rawPart none == rawInt 0) = true) := Bool.false_ne_true
  have hsame : Builtin.List.listSameRef (.ref l) (.ref b) = false := by
    unfold Builtin.List.listSameRef
    exact beq_eq_false_iff_ne.mpr hne
  have hmax : (max (a : Int) (items.size : Int)).toNat = items.size := by omega
  have hz' : ((fun xs : Array Value => xs.extract 0 a ++ new ++ xs.extract items.size xs.size) items).size ≤ sizeLine + 1 := by
    simp only [Array.size_append, Array.size_extract]
    omega
  unfold setItem
  try with_reducible refine wpAny_holding ?_
  first | refine wpAny_bind (wpAny_pure ?_) | skip
  refine wpAny_bind (wpAny_sequenceKey hl.typeIs (by decide) ?_)
  refine wpAny_bind (wpAny_callSpecial?_slot (name := Str.ofString "__setitem__") hl.typeIs slot_list_setitem
    (wpAny_call_entry slot_list_setitem hl.typeIs entry_list_setitem ?_ (args_list_setitem _ _ _)))
  show wpAny _ _ (Builtin.List.listSubscript? (.ref sl) >>= _) _ _ s
  refine wpAny_bind ?_
  unfold Builtin.List.listSubscript?
  refine wpAny_bind (wpAny_specialOf hTs slice_no_index ?_)
  simp only [Option.isNone_none, if_true]
  refine wpAny_pure ?_
  show wpAny _ _ (typeOf (.ref sl) >>= _) _ _ s
  refine wpAny_bind (wpAny_typeOf hTs ?_)
  first
    | rw [if_neg (by decide)]
    | refine PySem.W.KFB.if_not (by decide) ?_
  rw [listSliceParts_eq]
  refine wpAny_bind (wpAny_bind (wpAny_field hos hds (x := .none) rfl (wpAny_bind (wpAny_listPart .none ?_))))
  rw [if_neg hstep]
  refine wpAny_bind (wpAny_field hos hds (x := vl) rfl (wpAny_bind (wpAny_listPart pl ?_)))
  refine wpAny_bind (wpAny_field hos hds (x := vu) rfl (wpAny_bind (wpAny_listPart pu (wpAny_pure ?_))))
  first
    | simp only [hsame, Bool.false_eq_true, if_false]
    | refine PySem.W.KFB.if_not hsame ?_
    | (dsimp only
       rw [if_neg (by rw [hsame]; exact Bool.false_ne_true)])
  refine wpAny_bind (m := Builtin.List.listAllItems (.ref b) "must assign iterable to extended slice") ?_
  unfold Builtin.List.listAllItems
  refine wpAny_bind (wpAny_typeOf hb.typeIs ?_)
  first
    | refine PySem.W.KFB.if_so (by decide) ?_
    | rw [if_pos (by decide)]
    | simp only [beq_self_eq_true, Bool.true_or, if_true]
  unfold Builtin.List.listItems
  refine wpAny_bind (wpAny_seqItems e2 rfl (wpAny_pure ?_))
  refine wpAny_bind (wpAny_bind (wpAny_seqItems e rfl (wpAny_pure ?_)))
  refine wpAny_bind (wpAny_of_eq ((sliceIndices_raw (some (a : Int)) none none items.size (by simp)).trans (congrArg (pure : Int × Int × Int → Sem (Int × Int × Int)) (bounds_from hac))) ?_)
  show wpAny _ _ (if ((1 : Int) == 1) = true then _ else _) _ _ s
  rw [if_pos (by decide)]
  refine wpAny_bind (wpAny_rule ?_)
  first
    | simp only [notLongL hsz, Bool.false_eq_true, if_false]
    | refine PySem.W.KFB.if_not (notLongL hsz) ?_
  first | refine wpAny_bind (wpAny_pure ?_) | skip
  show wpAny _ _ (updateSeq l (fun xs => xs.extract 0 ((a : Int)).toNat ++ new ++ xs.extract (max (a : Int) (items.size : Int)).toNat xs.size) >>= _) _ _ s
  rw [hmax, Int.toNat_natCast]
  refine wpAny_bind (wpAny_updateSeq (hz := Nat.le_trans (Nat.le_add_right _ _) hsz) (_hz' := hz') e rfl ?_)
  refine wpAny_bind (wpAny_letGo ?_)
  first
    | exact wpAny_bind (wpAny_pure (wpAny_pure ⟨.none, rfl, wpAny_pure h⟩))
    | exact wpAny_pure ⟨.none, rfl, wpAny_pure h⟩
end
/-- o[a:] = v, o and v lists -/
def gFrom (to ti : TE) : TG := fun v σ H Q => to σ H fun o H1 => ti σ H1 fun i H2 => ∃ (l b : Addr) (xs ys : List V) (a : Int), o = .ref l ∧ i = .int a ∧ v = .ref b ∧ H2 l = some (.lst xs) ∧ H2 b = some (.lst ys) ∧ l ≠ b ∧ 0 ≤ a ∧ a ≤ xs.length ∧ xs.length + ys.length ≤ sizeLine ∧ Q σ (upd H2 l (.lst (xs.take a.toNat ++ ys)))
section
variable {X : Cx}
theorem pg_from {o lo : Expr} {to ti : TE} {p2 pos : Pos} (ho : PE X o to) (hi : PE X lo ti)
    (ha : ∀ v, assign (.Subscript o (.Slice (some lo) none none p2) pos) X.env v = (do
      let ov ← holding [v] (eval o X.env)
      let iv ← holding [v, ov] (eval (.Slice (some lo) none none p2) X.env)
      standAt pos
      holding [v, ov, iv] (setItem ov iv v)
      release [iv, v, ov] []) := by intro _; rfl) : PG X (.Subscript o (.Slice (some lo) none none p2) pos) (gFrom to ti) := by
  refine ⟨fun pins s σ H v u Q I r h => ?_⟩
  rw [ha]
  refine wpAny_bind (wpAny_holding (thn (ho.run pins s σ H _ I h) fun ov s1 ⟨x, H1, I1, r1, q1⟩ => ?_))
  refine wpAny_bind (wpAny_holding ?_)
  refine wpAny_Slice ?_
  rw [evalPart_some]
  refine thn (hi.run pins s1 σ H1 _ I1 q1) fun vl s2 ⟨y, H2, I2, r2, q2⟩ => ?_
  obtain ⟨l, b, xs, ys, a, ex, ey, ev, hl, hb, hne, h0, hle, hz, q⟩ := q2
  subst ex ey ev
  obtain ⟨t, rfl⟩ := r2
  cases r1
  cases r
  obtain ⟨a', rfl⟩ := Int.eq_ofNat_of_zero_le h0
  refine thn (po_none.run pins s2 σ H2 (fun o H3 => o = none ∧ H3 = H2) I2 ⟨rfl, rfl⟩) fun vu s3 ⟨u, H3, I3, pu, eu, e3⟩ => ?_
  subst eu e3
  rw [evalPart_none]
  refine wpAny_pure ?_
  refine wpAny_bind (wpAny_standAt (wpAny_bind (wpAny_holding ?_)))
  have I4 : Inv X pins σ H3 { s3 with heap := s3.heap.push { cls := .type "slice", data := .fields #[.int (a' : Int) t, vu, .none] } } := I3.kept (t' := s3.toks) fun b ob q => Heap.get?_push_of_some _ q
  obtain ⟨z, its, n, r, hlen, e⟩ := I4.lstM hl
  obtain ⟨z2, its2, n2, r2, hlen2, e2⟩ := I4.lstM hb
  refine setItem_from (a := a') e e2 hne (Heap.IsSliceOf.new _ _ _ _) (.int _ _) pu (by rw [List.size_toArray]; omega) (by rw [List.size_toArray, List.size_toArray]; omega) ?_
  refine wpAny_release ⟨σ, _, I4.lset (ys := xs.take a' ++ ys) (its' := its.take a' ++ its2) (t' := s3.toks) hl e ?_ (Vals.append (r.take _) r2) ?_, ?_⟩
  · have h3 := splice_eq its its2 a' its.length
    rw [List.drop_length, List.append_nil] at h3
    simpa using h3
  · rw [List.length_append, List.length_take]; omega
  · simpa using q
end
end Tw
set_option Elab.async false
set_option linter.all false
set_option maxRecDepth 100000
set_option maxHeartbeats 4000000
/-! isinstance with one built-in type by name; == and != of nested data up to a hundred and fifty deep. -/
namespace Tw
open PySem PySem.Spec PyProof.Rows L2
section
variable {X : Cx} {k : Nat} {p pos p2 : Pos} {e : Expr} {t : TE}
abbrev rIsiB (K : PySem.W.Frag) (T : String) : List V → Hp → VK → Prop := fun xs H Q => ∃ (x : V) (t0 : String) (b : Bool), xs = [x, .ty T] ∧ TyX K H x (.type t0) ∧ kitB t0 T = some b ∧ Q (.bl b) H
abbrev tIsi (K : PySem.W.Frag) (T : String) (t : TE) : TE := tCB (rIsiB K T) (tCons t (tCons (tC (.ty T)) tNil))
theorem call_isiB {T : String} : CallR X (.builtin "isinstance") (rIsiB X.K T) := by
  intro pins s σ H xs us Q I r h
  obtain ⟨x, t0, b, rfl, ty, kb, q1⟩ := h
  exact call_isi pins s σ H _ us Q I r ⟨x, .ty T, .type t0, .type T, b, rfl, .ty T, ty, kit_ty kb, q1⟩
theorem pe_tyN {x : Str} {T : String} (hg : Gl X x) (hm : X.mg x = none) (hv : bootBuiltins x = some (.type T)) (hn : x ≠ "__name__" := by decide) (hdb : (x == ("__debug__" : Str)) = false := by decide) :
    PE X (.Name x p) (tC (.ty T)) := ⟨fun _ _ _ H _ I h => ld_blt I hg hm hv ⟨.ty T, H, I, rfl, h⟩ hn hdb⟩
theorem pe_isiB {x : Str} {T : String} (hm : X.mg "isinstance" = none) (hm2 : X.mg x = none) (he : PE X e t) (hg : Gl X "isinstance" := by rfl) (hg2 : Gl X x := by rfl) (hv : bootBuiltins x = some (.type T) := by decide +kernel)
    (hn : x ≠ "__name__" := by decide) (hdb : (x == ("__debug__" : Str)) = false := by decide)
    (hs : starEach [e, .Name x p2] X.env = (false, eval e X.env) :: starEach [.Name x p2] X.env := by rfl) (hpl : (backTo pos (starEach [.Name x p2] X.env)).any (·.1) = false := by rfl) :
    PE X (.Call (.Name "isinstance" p) [e, .Name x p2] [] pos) (tIsi X.K T t) :=
  pe_callB call_isiB hg hm (by decide +kernel) (pa_cons he (pa_cons (pe_tyN hg2 hm2 hv hn hdb) pa_nil) hs) (by decide) (by decide) hs hpl
abbrev rEqB (K : PySem.W.Frag) : R2 := fun x y H Q => ∃ d e, Dp K H x d ∧ Dp K H y e ∧ d.canLay0 = true ∧ e.canLay0 = true ∧ min d.depth e.depth ≤ 200 ∧ Q (.bl (PyData.eqv d e)) H
abbrev rNeB (K : PySem.W.Frag) : R2 := fun x y H Q => ∃ d e, Dp K H x d ∧ Dp K H y e ∧ d.canLay0 = true ∧ e.canLay0 = true ∧ min d.depth e.depth ≤ 200 ∧ Q (.bl (!PyData.eqv d e)) H
theorem op_eqB (hr : Room k X.A) : OpR X (compareOp .Eq) (rEqB X.K) := by
  intro pins s σ H x y v u Q I rx ry h
  obtain ⟨d, e, hd, he, sd, se, m, q⟩ := h
  obtain ⟨as, r1⟩ := Dp.reads I d x v hd rx
  obtain ⟨bs, r2⟩ := Dp.reads I e y u he ry
  exact SeqAt.compareEq_reads r1 r2 sd se (by have := hr.un; omega) ⟨.bl _, H, I, rfl, q⟩
theorem op_neB (hr : Room k X.A) : OpR X (compareOp .NotEq) (rNeB X.K) := by
  intro pins s σ H x y v u Q I rx ry h
  obtain ⟨d, e, hd, he, sd, se, m, q⟩ := h
  obtain ⟨as, r1⟩ := Dp.reads I d x v hd rx
  obtain ⟨bs, r2⟩ := Dp.reads I e y u he ry
  exact SeqAt.compareNe_reads r1 r2 sd se (by have := hr.un; omega) ⟨.bl _, H, I, rfl, q⟩
end
end Tw
set_option Elab.async false
set_option linter.all false
set_option maxRecDepth 100000
set_option maxHeartbeats 4000000
/-! the program's names and ends -/
namespace Tw
open PySem PySem.Spec PyProof.Rows L2 TL
local macro_rules | `(tactic| walk_at "rd") => `(tactic| try simp only [o_op, o_un, o_var, o_c, o_cb, o_call, o_cons, o_nil, o_tup, o_lst, o_I0, o_I, o_int1, o_intb, o_abs, o_test, o_b, o_not, o_and, o_or, o_andV, o_orV, o_notV, o_ifE, o_isN, o_notN, o_eq, o_ne, o_seq, o_next, o_asg, o_name, o_sub, o_par, o_par3, o_drop, o_ret, o_retN, o_ifS, o_sl, o_noPart, o_part, o_bm, o_bm0, o_m0, o_m1, o_dget, o_dput, o_din, o_dnotin, o_listKeys, e_bl, e_int, e_str, e_some, e_two, e_three, o_for, o_lc, o_iList, o_iTup, o_iRng1, e_int1, e_ref, o_yes, o_wipe0, o_wipe1, o_disp, o_dnew, o_pairs0, o_pairs1, o_lock, o_keysM, o_gtup, o_gcons, o_gnil, true_and, if_pos, List.getElem?_cons_zero, List.getElem?_cons_succ, List.set_cons_zero, List.set_cons_succ, List.append_nil])
theorem str_ext {x y : Str} (h : x.cps.toList = y.cps.toList) : x = y := by
  cases x; cases y
  simp only [Str.mk.injEq]
  exact Array.toList_inj.mp h
def nameB (s : Str) : Bool := !decide (8 < (s.length : Int)) && (Txt.isascii s && (Txt.isalpha s && Txt.islower s))
theorem name_let : ∀ k : Fin 26, (decide (97 + k.val < 128) && (Unicode.isAlpha (97 + k.val) && (Unicode.isLower (97 + k.val) && !(Unicode.isUpper (97 + k.val) || Unicode.isTitle (97 + k.val))))) = true := by decide +kernel
theorem nameB_of {z : Str} (h : IsName z) : nameB z = true := by
  have hl : ∀ c ∈ z.cps.toList, (decide (c < 128) && (Unicode.isAlpha c && (Unicode.isLower c && !(Unicode.isUpper c || Unicode.isTitle c)))) = true := fun c hc => by
    have h1 := h.let_ c hc
    have h2 := name_let ⟨c - 97, by omega⟩
    have e : 97 + (c - 97) = c := by omega
    simp only [e] at h2
    exact h2
  simp only [Bool.and_eq_true, Bool.not_eq_true', Bool.or_eq_false_iff, decide_eq_true_eq] at hl
  have h8 := h.eight
  have h1 := h.one
  unfold nameB Txt.isascii Txt.isalpha Txt.islower
  simp only [Bool.and_eq_true, Bool.not_eq_true', decide_eq_true_eq, decide_eq_false_iff_not, ← Array.all_toList, ← Array.any_toList, List.all_eq_true, List.any_eq_false, List.any_eq_true, Bool.or_eq_true, not_or]
  refine ⟨by omega, fun c hc => (hl c hc).1, ⟨by omega, fun c hc => (hl c hc).2.1⟩, ?_, fun c hc => ?_⟩
  · have h3 : z.cps.toList ≠ [] := fun e => by rw [len_tl, e] at h1; simp at h1
    obtain ⟨c, r, e⟩ := List.exists_cons_of_ne_nil h3
    have hc : c ∈ z.cps.toList := by rw [e]; exact List.mem_cons_self ..
    exact ⟨c, hc, (hl c hc).2.2.1⟩
  · have := (hl c hc).2.2.2
    rw [this.1, this.2]; exact ⟨Bool.false_ne_true, Bool.false_ne_true⟩
/-- a value that is no string -/
def NoStr (K : PySem.W.Frag) (H : Hp) (x : V) : Prop := ∃ t0, TyX K H x (.type t0) ∧ kitB t0 "str" = some false
def sp_is_name (K : PySem.W.Frag) : Sp := fun vs H Q _ => ∃ x, vs = [x] ∧ ((∃ s : Str, x = .str s ∧ s.length ≤ sizeLine ∧ Q (.bl (nameB s)) H) ∨ (NoStr K H x ∧ Q (.bl false) H))
def endB (s : Str) : Bool := inV (.str (cutS s none (some 1))) [.str "+", .str "-"] && nameB (cutS s (some 1) none)
def sp_u_is_end (K : PySem.W.Frag) : Sp := fun vs H Q _ => ∃ x, vs = [x] ∧ ((∃ s : Str, x = .str s ∧ s.length ≤ sizeLine ∧ ∀ H', Kp H H' → Q (.bl (endB s)) H') ∨ (NoStr K H x ∧ Q (.bl false) H))
def t_is_name (K : PySem.W.Frag) : TS :=
  (tSeq (tIfS (tOr (tNot (tB (tIsi K "str" (tVar 0)))) (tTest (tOp (rI0 fun i j => .bl (decide (j < i))) (tCB rLenStr (tCons (tVar 0) tNil)) (tC (.int 8))))) (tRet (tC (.bl false))) tNext)
  (tRet (tAndV (tM0 (rTxtB Txt.isascii) (tVar 0)) (tAndV (tM0 (rTxtB Txt.isalpha) (tVar 0)) (tM0 (rTxtB Txt.islower) (tVar 0))))))
def t_u_is_end (K : PySem.W.Frag) : TS :=
  (tRet (tAndV (tIsi K "str" (tVar 0)) (tAndV (tOp (rIn K false) (L2.tSl rSlS (tVar 0) tNoPart (tPart (tC (.int 1)))) (tTup (tCons (tC (.str "+")) (tCons (tC (.str "-")) tNil)))) (tCall (sp_is_name K) [] E0 (tCons (L2.tSl rSlS (tVar 0) (tPart (tC (.int 1))) tNoPart) tNil)))))
section
variable {K : PySem.W.Frag}
theorem len_is_name (vs : List V) (H : Hp) (Q : VK) (E : XK) (h : sp_is_name K vs H Q E) : vs.length = 1 := by
  obtain ⟨_, rfl, _⟩ := h; rfl
theorem len_u_is_end (vs : List V) (H : Hp) (Q : VK) (E : XK) (h : sp_u_is_end K vs H Q E) : vs.length = 1 := by
  obtain ⟨_, rfl, _⟩ := h; rfl
theorem o_isiS {s : Str} {H : Hp} {Q : VK} (q : Q (.bl true) H) : rIsiB K "str" [.str s, .ty "str"] H Q := ⟨_, "str", true, rfl, .base (.str s), by decide +kernel, q⟩
theorem o_isiN {x : V} {H : Hp} {Q : VK} (h : NoStr K H x) (q : Q (.bl false) H) : rIsiB K "str" [x, .ty "str"] H Q := by
  obtain ⟨t0, a, b⟩ := h
  exact ⟨_, t0, false, rfl, a, b, q⟩
theorem pure_is_name (vs : List V) (H : Hp) (Q : VK) (E : XK) (h : sp_is_name K vs H Q E) : t_is_name K { nx := fun _ H' => Q .non H', rt := Q } (startN 1 vs) H := by
  obtain ⟨x, rfl, h⟩ := h
  show t_is_name K _ [some x] H
  unfold t_is_name
  walk_at "rd"
  rcases h with ⟨s, rfl, hz, q⟩ | ⟨hn, q⟩
  · refine o_isiS ?_
    walk_at "rd"
    simp only [Bool.not_true, Bool.false_eq_true, if_false]
    refine ⟨s, rfl, hz, ?_⟩
    walk_at "rd"
    by_cases h8 : (8 : Int) < s.length
    · have e : nameB s = false := by unfold nameB; rw [decide_eq_true h8]; rfl
      rw [e] at q
      simpa [h8] using q
    · simp only [h8, decide_false, Bool.false_eq_true, if_false]
      have e : nameB s = (Txt.isascii s && (Txt.isalpha s && Txt.islower s)) := by unfold nameB; rw [decide_eq_false h8]; rfl
      rw [e] at q
      refine ⟨⟨s, rfl⟩, ?_⟩
      cases h1 : Txt.isascii s <;> cases h2 : Txt.isalpha s <;> rw [h1] at q <;> rw [h2] at q <;> first | exact q | exact ⟨⟨s, rfl⟩, q⟩ | exact ⟨⟨s, rfl⟩, ⟨s, rfl⟩, q⟩ | skip
  · refine o_isiN hn ?_
    walk_at "rd"
    simpa using q
theorem cut0 {s : Str} : (cutS s none (some 1)).cps.toList = s.cps.toList.take 1 := by
  rw [tl_cut, show (some (1 : Int)) = some ((1 : Nat) : Int) from rfl, HT.sIx_none, HT.sIx_nat, List.drop_zero, Nat.sub_zero]
  rw [len_tl]
  by_cases h : 1 ≤ s.cps.toList.length
  · rw [Nat.min_eq_left h]
  · rw [Nat.min_eq_right (by omega)]
    have : s.cps.toList = [] := List.eq_nil_of_length_eq_zero (by omega)
    rw [this]; rfl
theorem cut1 {s : Str} : (cutS s (some 1) none).cps.toList = s.cps.toList.drop 1 := by
  rw [tl_cut, show (some (1 : Int)) = some ((1 : Nat) : Int) from rfl, HT.sIx_none, HT.sIx_nat, len_tl]
  by_cases h : 1 ≤ s.cps.toList.length
  · rw [Nat.min_eq_left h, List.take_of_length_le]; rw [List.length_drop]; omega
  · have : s.cps.toList = [] := List.eq_nil_of_length_eq_zero (by omega)
    rw [this]; rfl
theorem pure_u_is_end (vs : List V) (H : Hp) (Q : VK) (E : XK) (h : sp_u_is_end K vs H Q E) : t_u_is_end K { nx := fun _ H' => Q .non H', rt := Q } (startN 1 vs) H := by
  obtain ⟨x, rfl, h⟩ := h
  show t_u_is_end K _ [some x] H
  unfold t_u_is_end
  walk_at "rd"
  rcases h with ⟨s, rfl, hz, q⟩ | ⟨hn, q⟩
  · refine o_isiS ?_
    walk_at "rd"
    refine ⟨s, rfl, hz, by show 2 ≤ sizeLine; decide, fun p hp => ?_⟩
    generalize hG : upd H p _ = H1
    obtain ⟨k1, e1⟩ := gen_new hp hG
    clear hG
    refine ⟨p, _, rfl, .inr (SqT.of e1), rfl, rfl, ?_⟩
    walk_at "rd"
    simp only [Bool.false_eq_true, if_false]
    have q1 := q H1 k1
    unfold endB at q1
    cases hi : inV (.str (cutS s none (some 1))) [.str "+", .str "-"] with
    | false => rw [hi] at q1; simpa using q1
    | true =>
      simp only [if_true]
      rw [hi] at q1
      refine ⟨s, rfl, hz, _, rfl, .inl ⟨_, rfl, ?_, by simpa using q1⟩⟩
      rw [len_tl, cut1, List.length_drop, ← len_tl]; omega
  · refine o_isiN hn ?_
    walk_at "rd"
    simpa using q
end
end Tw
set_option Elab.async false
set_option linter.all false
set_option maxRecDepth 100000
set_option maxHeartbeats 4000000
/-! rows, end by end -/
namespace Tw
open PySem PySem.Spec PyProof.Rows L2 TL
local macro_rules | `(tactic| walk_at "rd") => `(tactic| try simp only [o_op, o_un, o_var, o_c, o_cb, o_call, o_cons, o_nil, o_tup, o_lst, o_I0, o_I, o_int1, o_intb, o_abs, o_test, o_b, o_not, o_and, o_or, o_andV, o_orV, o_notV, o_ifE, o_isN, o_notN, o_eq, o_ne, o_seq, o_next, o_asg, o_name, o_sub, o_par, o_par3, o_drop, o_ret, o_retN, o_ifS, o_sl, o_noPart, o_part, o_bm, o_bm0, o_m0, o_m1, o_dget, o_dput, o_din, o_dnotin, o_listKeys, e_bl, e_int, e_str, e_some, e_two, e_three, o_for, o_lc, o_iList, o_iTup, o_iRng1, e_int1, e_ref, o_yes, o_wipe0, o_wipe1, o_disp, o_dnew, o_pairs0, o_pairs1, o_lock, o_keysM, o_gtup, o_gcons, o_gnil, true_and, if_pos, List.getElem?_cons_zero, List.getElem?_cons_succ, List.set_cons_zero, List.set_cons_succ, List.append_nil])
/-- an end: is it the first one, of which node -/
abbrev En := Bool × Str
def en (e : En) : Str := if e.1 then Fo.plus e.2 else Fo.minus e.2
namespace Fo
def app : Fo → Fo → Fo
  | nil, g => g
  | cons n ks r, g => cons n ks (app r g)
def erow : Fo → List En
  | nil => []
  | cons n ks r => (true, n) :: (erow ks ++ (false, n) :: erow r)
theorem row_erow : ∀ f : Fo, f.row = f.erow.map en
  | nil => rfl
  | cons n ks r => by simp only [row, erow, List.map_cons, List.map_append, row_erow ks, row_erow r]; rfl
theorem app_nil : ∀ f : Fo, f.app nil = f
  | nil => rfl
  | cons n ks r => by rw [app, app_nil r]
theorem app_assoc : ∀ f g h : Fo, (f.app g).app h = f.app (g.app h)
  | nil, _, _ => rfl
  | cons n ks r, g, h => by simp only [app, app_assoc r g h]
theorem tops_app : ∀ f g : Fo, (f.app g).tops = f.tops ++ g.tops
  | nil, _ => rfl
  | cons n ks r, g => by simp only [app, tops, tops_app r g, List.cons_append]
end Fo
/-- the names that begin in these ends -/
def pls (es : List En) : List Str := (es.filter (·.1)).map (·.2)
theorem pls_app (a b : List En) : pls (a ++ b) = pls a ++ pls b := by simp [pls]
theorem pls_row : ∀ f : Fo, pls f.erow = f.nm
  | .nil => rfl
  | .cons n ks r => by
    show pls ((true, n) :: (ks.erow ++ (false, n) :: r.erow)) = _
    have h : pls ((true, n) :: (ks.erow ++ (false, n) :: r.erow)) = n :: (pls ks.erow ++ pls r.erow) := by simp [pls]
    rw [h, pls_row ks, pls_row r]; rfl
theorem erow_nm : ∀ (f : Fo) (e : En), e ∈ f.erow → e.2 ∈ f.nm
  | .cons n ks r, e, h => by
    rcases List.mem_cons.mp h with h | h
    · rw [h]; exact List.mem_cons_self ..
    · rcases List.mem_append.mp h with h | h
      · exact List.mem_cons_of_mem _ (List.mem_append_left _ (erow_nm ks e h))
      · rcases List.mem_cons.mp h with h | h
        · rw [h]; exact List.mem_cons_self ..
        · exact List.mem_cons_of_mem _ (List.mem_append_right _ (erow_nm r e h))
/-- these ends lead from what is open (with what is done ahead of it) and what is done since to the whole F, with at most B open -/
def Runs (B : Nat) : List En → List (Fo × Str) → Fo → Fo → Prop
  | [], zs, c, F => zs = [] ∧ c = F
  | (true, n) :: es, zs, c, F => zs.length < B ∧ Runs B es ((c, n) :: zs) .nil F
  | (false, n) :: es, zs, c, F => ∃ l zs', zs = (l, n) :: zs' ∧ Runs B es zs' (l.app (.cons n c .nil)) F
theorem runs_app {B : Nat} {F : Fo} : ∀ (f : Fo) (es : List En) (zs : List (Fo × Str)) (c : Fo), f.dp + zs.length ≤ B → Runs B es zs (c.app f) F → Runs B (f.erow ++ es) zs c F
  | .nil, es, zs, c, _, h => by rw [Fo.app_nil] at h; exact h
  | .cons n ks r, es, zs, c, hd, h => by
    have hd2 : max (ks.dp + 1) r.dp + zs.length ≤ B := hd
    show Runs B ((true, n) :: ((ks.erow ++ (false, n) :: r.erow) ++ es)) zs c F
    refine ⟨by omega, ?_⟩
    rw [List.append_assoc]
    refine runs_app ks _ _ _ (by rw [List.length_cons]; omega) ⟨c, zs, rfl, ?_⟩
    refine runs_app r _ _ _ (by omega) ?_
    rw [Fo.app_assoc]; exact h
theorem runs_all {B : Nat} (f : Fo) (h : f.dp ≤ B) : Runs B f.erow [] .nil f := by
  have := runs_app (B := B) (F := f) f [] [] .nil (by simpa using h) ⟨rfl, rfl⟩
  rwa [List.append_nil] at this
/-- a wood whose names are names, unlike, and not too many -/
structure NameOk (f : Fo) : Prop where
  nd : f.nm.Nodup
  nms : ∀ z ∈ f.nm, IsName z
  sz : f.nm.length ≤ 1000
/-! what the ends are as texts -/
theorem en_codes (e : En) : (en e).cps.toList = (if e.1 then 43 else 45) :: e.2.cps.toList := by
  obtain ⟨b, n⟩ := e
  have l1 : (("+" : Str)).cps.toList = [43] := by decide +kernel
  have l2 : (("-" : Str)).cps.toList = [45] := by decide +kernel
  cases b
  · show (("-" : Str) ++ n).cps.toList = _
    rw [tl_app, l2]; rfl
  · show (("+" : Str) ++ n).cps.toList = _
    rw [tl_app, l1]; rfl
theorem en_len (e : En) : (en e).length = e.2.length + 1 := by rw [len_tl, en_codes, List.length_cons, ← len_tl]
theorem en_cut1 (e : En) : cutS (en e) (some 1) none = e.2 := str_ext (by rw [cut1, en_codes]; rfl)
theorem en_at0 (e : En) : atI (en e).cps.toList 0 = some (if e.1 then 43 else 45) := by rw [en_codes]; exact atI_nat (j := 0) rfl
theorem en_end {e : En} (h : IsName e.2) : endB (en e) = true := by
  unfold endB
  rw [en_cut1, nameB_of h, Bool.and_true]
  obtain ⟨b, n⟩ := e
  have e1 : cutS (en (b, n)) none (some 1) = if b then ("+" : Str) else ("-" : Str) := by
    refine str_ext ?_
    rw [cut0, en_codes]
    cases b
    · show [45] = _; decide +kernel
    · show [43] = _; decide +kernel
  rw [e1]
  cases b <;> decide +kernel
theorem p43 : (V.str ⟨#[43]⟩ = V.str "+") := by
  congr 1
theorem p45 : ¬(V.str ⟨#[45]⟩ = V.str "+") := by
  intro h
  have := V.str.inj h
  exact absurd this (by decide +kernel)
end Tw
set_option Elab.async false
set_option linter.all false
set_option maxRecDepth 100000
set_option maxHeartbeats 4000000
/-! rows and woods of the program -/
namespace Tw
open PySem PySem.Spec PyProof.Rows L2 TL
local macro_rules | `(tactic| walk_at "rd") => `(tactic| try simp only [o_op, o_un, o_var, o_c, o_cb, o_call, o_cons, o_nil, o_tup, o_lst, o_I0, o_I, o_int1, o_intb, o_abs, o_test, o_b, o_not, o_and, o_or, o_andV, o_orV, o_notV, o_ifE, o_isN, o_notN, o_eq, o_ne, o_seq, o_next, o_asg, o_name, o_sub, o_par, o_par3, o_drop, o_ret, o_retN, o_ifS, o_sl, o_noPart, o_part, o_bm, o_bm0, o_m0, o_m1, o_dget, o_dput, o_din, o_dnotin, o_listKeys, e_bl, e_int, e_str, e_some, e_two, e_three, o_for, o_lc, o_iList, o_iTup, o_iRng1, e_int1, e_ref, o_yes, o_wipe0, o_wipe1, o_disp, o_dnew, o_pairs0, o_pairs1, o_lock, o_keysM, o_gtup, o_gcons, o_gnil, true_and, if_pos, List.getElem?_cons_zero, List.getElem?_cons_succ, List.set_cons_zero, List.set_cons_succ, List.append_nil])
/-- a wood whose row may be taken -/
structure RowOk (f : Fo) : Prop where
  nd : f.nm.Nodup
  nms : ∀ z ∈ f.nm, IsName z
  sz : f.nm.length ≤ 1000
  dp : f.dp ≤ 100
def sp_u_bad_place (K : PySem.W.Frag) : Sp := fun vs H Q _ => ∃ a f, vs = [.ref a] ∧ SqT K H a (f.row.map V.str) ∧ RowOk f ∧ ∀ H', Kp H H' → Q .non H'
theorem RowOk.ok {f : Fo} (h : RowOk f) : NameOk f := ⟨h.nd, h.nms, h.sz⟩
def sp_unchecked_wood (K : PySem.W.Frag) : Sp := fun vs H Q _ => ∃ a f, vs = [.ref a] ∧ (SqL K H a (f.row.map V.str) ∨ SqT K H a (f.row.map V.str)) ∧ NameOk f ∧ ∀ p H', Kp H H' → WoodAt K H' p f → Q (.ref p) H'
def sp_wood_of (K : PySem.W.Frag) : Sp := fun vs H Q _ => ∃ a f, vs = [.ref a] ∧ SqT K H a (f.row.map V.str) ∧ RowOk f ∧ ∀ p H', Kp H H' → WoodAt K H' p f → Q (.ref p) H'
def sp_row_of (K : PySem.W.Frag) : Sp := fun vs H Q _ => ∃ a f, vs = [.ref a] ∧ WoodAt K H a f ∧ f.nm.length ≤ 1000 ∧ (∀ z ∈ f.nm, z.length ≤ 100) ∧ ∀ p H', Kp H H' → SqT K H' p (f.row.map V.str) → Q (.ref p) H'
def t_u_bad_place_b1 (K : PySem.W.Frag) : TS :=
  (tSeq (tIfS (tNot (tB (tCall (sp_u_is_end K) [] E0 (tCons (tVar 4) tNil)))) (tRet (tVar 3)) tNext)
  (tSeq (tAsg (L2.tSl rSlS (tVar 4) (tPart (tC (.int 1))) tNoPart) (gName 5))
  (tIfS (tTest (tOp rEq (tOp rIxS (tVar 4) (tC (.int 0))) (tC (.str "+")))) (tSeq (tIfS (tOr (tB (tDIn (tVar 5) (tVar 1))) (tTest (tOp rEq (tCB (rLenSeq K) (tCons (tVar 2) tNil)) (tC (.int 100))))) (tRet (tVar 3)) tNext)
  (tSeq (sDPut (tVar 1) (tVar 5) (tC (.bl true)))
  (tDrop (tBM K "list" rAppend (tVar 2) (tCons (tVar 5) tNil))))) (tSeq (tIfS (tTest (tOp (rNeB K) (L2.tSl (rSlL K) (tVar 2) (tPart (tUn (rU fun i => .int (-i)) (tC (.int 1)))) tNoPart) (tLst (tCons (tVar 5) tNil)))) (tRet (tVar 3)) tNext)
  (tDrop (tBM0 K "list" rPop (tVar 2)))))))
def t_u_bad_place (K : PySem.W.Frag) : TS :=
  (tSeq (tAsg tDNewK (gName 1))
  (tSeq (tAsg (tLst tNil) (gName 2))
  (tSeq (tFor (iEnumT K (tCons (tVar 0) tNil)) (gTup K 2 (gCons (gName 3) (gCons (gName 4) gNil)))
  (t_u_bad_place_b1 K))
  (tRet (tIf (tTru K (tVar 2)) (tCB (rLenSeq K) (tCons (tVar 0) tNil)) (tC .non))))))
theorem o_enumT {K : PySem.W.Frag} {ta : TA} {σ : L2.St} {H : Hp} {R : It → Hp → Prop} : iEnumT K ta σ H R = ta σ H fun vs H1 => ∃ a xs, vs = [.ref a] ∧ SqT K H1 a xs ∧ R (IteT K a) H1 := rfl
theorem o_tru {K : PySem.W.Frag} {ta : TE} {σ : L2.St} {H : Hp} {Q : Bool → Hp → Prop} : tTru K ta σ H Q = ta σ H fun x H' => ∃ k, TruV K x H' k ∧ Q k H' := rfl
theorem o_rU {g : Int → V} {i : Int} {H : Hp} {Q : VK} : rU g (.int i) H Q = Q (g i) H := by
  apply propext; constructor
  · rintro ⟨a, e, q⟩; cases e; exact q
  · intro q; exact ⟨i, rfl, q⟩
section
variable {K : PySem.W.Frag}
theorem len_u_bad_place (vs : List V) (H : Hp) (Q : VK) (E : XK) (h : sp_u_bad_place K vs H Q E) : vs.length = 1 := by
  obtain ⟨_, _, rfl, _⟩ := h; rfl
theorem len_unchecked_wood (vs : List V) (H : Hp) (Q : VK) (E : XK) (h : sp_unchecked_wood K vs H Q E) : vs.length = 1 := by
  obtain ⟨_, _, rfl, _⟩ := h; rfl
theorem len_wood_of (vs : List V) (H : Hp) (Q : VK) (E : XK) (h : sp_wood_of K vs H Q E) : vs.length = 1 := by
  obtain ⟨_, _, rfl, _⟩ := h; rfl
theorem len_row_of (vs : List V) (H : Hp) (Q : VK) (E : XK) (h : sp_row_of K vs H Q E) : vs.length = 1 := by
  obtain ⟨_, _, rfl, _⟩ := h; rfl
/-- the names that are open, the outermost first -/
def opn (zs : List (Fo × Str)) : List V := zs.reverse.map fun z => V.str z.2
theorem opn_cons (c : Fo) (n : Str) (zs : List (Fo × Str)) : opn ((c, n) :: zs) = opn zs ++ [.str n] := by simp [opn]
theorem opn_len (zs : List (Fo × Str)) : (opn zs).length = zs.length := by simp [opn]
theorem cut_last (xs : List V) (x : V) : cutV (xs ++ [x]) (some (-1)) none = [x] := by
  unfold cutV
  have h : HT.sIx (xs ++ [x]).length 0 (some (-1)) = xs.length := by
    unfold HT.sIx
    simp only [show (-1 : Int) < 0 by decide, if_true, List.length_append, List.length_singleton]; omega
  rw [h, HT.sIx_none]; simp
theorem strOk_of {z : Str} (h : IsName z) : PyData.strOk z = true := by
  unfold PyData.strOk
  rw [← Array.all_toList, List.all_eq_true]
  intro c hc
  have := h.let_ c hc
  simp only [decide_eq_true_eq]; omega
theorem drop_at {α : Type} {l : List α} {i : Nat} {x : α} (h : l[i]? = some x) : l.drop i = x :: l.drop (i + 1) := by
  obtain ⟨hi, e⟩ := List.getElem?_eq_some_iff.mp h
  rw [List.drop_eq_getElem_cons hi, e]
theorem pure_u_bad_place (vs : List V) (H : Hp) (Q : VK) (E : XK) (h : sp_u_bad_place K vs H Q E) : t_u_bad_place K { nx := fun _ H' => Q .non H', rt := Q } (startN 6 vs) H := by
  obtain ⟨a, f, rfl, ha, hf, q⟩ := h
  show t_u_bad_place K _ [some (.ref a), none, none, none, none, none] H
  unfold t_u_bad_place
  have hz := sizeLine_eq
  have hsz := hf.sz
  walk_at "rd"
  intro sn hsn
  generalize hG : upd H sn _ = H1
  obtain ⟨k1, e1⟩ := gen_new hsn hG
  clear hG
  refine ⟨Nat.zero_le _, fun ar har => ?_⟩
  generalize hG : upd H1 ar _ = H2
  obtain ⟨k2, e2⟩ := gen_new har hG
  clear hG
  have k02 : Kp H H2 := fun b o e => k2 _ _ (k1 _ _ e)
  rw [o_enumT]
  walk_at "rd"
  refine ⟨a, _, rfl, Tk.kp k02 _ _ ha, ?_⟩
  rw [Fo.row_erow, List.map_map] at ha
  have hlen : (f.erow.map (V.str ∘ en)).length = 2 * f.nm.length := by
    rw [List.length_map, ← row_len f, Fo.row_erow, List.length_map]
  refine fb_walk (walk_enumT (xs := f.erow.map (V.str ∘ en))) (fun i σ H3 => ∃ zs c seen x y z, Kp H H3 ∧ H3 sn = some (.dK (kvs seen fun _ => .bl true)) ∧ H3 ar = some (.lst (opn zs)) ∧ Runs 100 (f.erow.drop i) zs c f ∧ (seen ++ pls (f.erow.drop i)).Nodup ∧ seen.length ≤ i ∧
    σ = [some (.ref a), some (.ref sn), some (.ref ar), x, y, z]) ?_ ?_ ?_ ?_
  · refine ⟨[], .nil, [], _, _, _, k02, k2 _ _ e1, e2, runs_all f hf.dp, ?_, Nat.le_refl _, rfl⟩
    rw [List.nil_append, List.drop_zero, pls_row]; exact hf.nd
  · rintro i σ H3 _ ⟨zs, c, seen, x, y, z, k3, _⟩
    exact Tk.kp k3 _ _ ha
  · rintro i v σ H3 H4 hi ⟨zs, c, seen, x, y, z, k3, hs3, ha3, hr, hn, hsl, rfl⟩ ⟨T, x', y', rfl, hT, eH, ex, ey⟩
    obtain rfl := Option.some.inj ex
    replace ey : (f.erow.map (V.str ∘ en))[i]? = some y' := ey
    rw [List.getElem?_map, Option.map_eq_some_iff] at ey
    obtain ⟨e, he, rfl⟩ := ey
    rw [drop_at he] at hr hn
    have hie : IsName e.2 := hf.nms _ (erow_nm f e (List.mem_of_getElem? he))
    have h8 := hie.eight
    obtain ⟨k4, e4⟩ := gen_new hT eH.symm
    walk_at "rd"
    refine ⟨T, _, rfl, SqT.of e4, rfl, _, _, rfl, _, _, rfl, rfl, ?_⟩
    unfold t_u_bad_place_b1
    walk_at "rd"
    refine ⟨_, rfl, .inl ⟨en e, rfl, by rw [en_len]; omega, fun H5 k5 => ?_⟩⟩
    rw [en_end hie]
    walk_at "rd"
    simp only [Bool.not_true, Bool.false_eq_true, if_false]
    refine ⟨en e, rfl, by rw [en_len]; omega, ?_⟩
    rw [en_cut1]
    refine o_ixS (by rw [en_len]; omega) (en_at0 e) ⟨rfl, ?_⟩
    have k35 : Kp H3 H5 := fun b o e => k5 _ _ (k4 _ _ e)
    have hs5 := k35 _ _ hs3
    have ha5 := k35 _ _ ha3
    have hsa : sn ≠ ar := fun z => by rw [z, ha5] at hs5; cases hs5
    have snH : H sn = none := hsn
    have arH : H ar = none := Kp.free k1 har
    obtain ⟨b, n⟩ := e
    cases b with
    | true =>
      obtain ⟨hlt, hr2⟩ := hr
      have hnn : n ∉ seen := by
        intro hm
        have : pls ((true, n) :: f.erow.drop (i + 1)) = n :: pls (f.erow.drop (i + 1)) := rfl
        rw [this] at hn
        exact (List.nodup_append.mp hn).2.2 n hm n (List.mem_cons_self ..) rfl
      refine ite2 (fun _ => ?_) fun h => absurd (by simpa using p43) h
      walk_at "rd"
      have hg := DGet.k (k := (Sum.inr n : Key)) hs5
      rw [valV_kvs, if_neg hnn] at hg
      refine ⟨sn, none, rfl, hg, ?_⟩
      simp only [Option.isSome_none, Bool.false_eq_true, if_false]
      walk_at "rd"
      refine ⟨ar, _, rfl, .inl (SqL.of ha5), rfl, ?_⟩
      rw [opn_len]
      have h100 : ¬ (V.int (zs.length : Int) = V.int 100) := fun z => by have := V.int.inj z; omega
      simp only [h100, decide_false, Bool.false_eq_true, if_false]
      refine ⟨sn, _, rfl, DPut.k (k := (Sum.inr n : Key)) hs5 (by rw [kvs_len]; omega), ?_⟩
      rw [put_new _ _ _ _ hnn]
      generalize hG : upd H5 sn _ = H6
      obtain ⟨k6, e6⟩ := gen_chg hG
      clear hG
      have ha6 := k6 _ _ ha5 hsa.symm
      refine ⟨.inl ⟨rfl, _, SqL.of ha6⟩, ar, _, _, rfl, rfl, ha6, by rw [opn_len]; omega, ?_⟩
      generalize hG : upd H6 ar _ = H7
      obtain ⟨k7, e7⟩ := gen_chg hG
      clear hG
      refine ⟨(c, n) :: zs, .nil, seen ++ [n], _, _, _, fun b o e => k7 _ _ (k6 _ _ (k35 _ _ (k3 _ _ e)) (ne_of_none e snH)) (ne_of_none e arH), ?_, by rw [e7, opn_cons], hr2, ?_, by rw [List.length_append, List.length_singleton]; omega, rfl⟩
      · rw [k7 _ _ e6 hsa]
        congr 3
        funext m; split <;> rfl
      · have : pls ((true, n) :: f.erow.drop (i + 1)) = n :: pls (f.erow.drop (i + 1)) := rfl
        rw [this] at hn
        rw [List.append_assoc]; exact hn
    | false =>
      obtain ⟨l, zs', rfl, hr2⟩ := hr
      refine ite2 (fun h => absurd (by simpa using h) p45) fun _ => ?_
      walk_at "rd"
      rw [o_rU]
      walk_at "rd"
      refine ⟨ar, _, rfl, SqL.of ha5, fun p1 hp1 => ?_⟩
      rw [opn_cons, cut_last]
      generalize hG : upd H5 p1 _ = H6
      obtain ⟨k6, e6⟩ := gen_new hp1 hG
      clear hG
      refine ⟨by show 1 ≤ sizeLine; omega, fun p2 hp2 => ?_⟩
      generalize hG : upd H6 p2 _ = H7
      obtain ⟨k7, e7⟩ := gen_new hp2 hG
      clear hG
      have hso : PyData.strOk n = true := strOk_of hie
      refine ⟨.list [.str n], .list [.str n], .lst (SqL.of (k7 _ _ e6)) (.cons (.str n) .nil), .lst (SqL.of e7) (.cons (.str n) .nil), ?_, ?_, by simp [PyData.depth, PyData.depthAll], ?_⟩
      · simp [PyData.canLay0, PyData.canLayAll0, hso]
      · simp [PyData.canLay0, PyData.canLayAll0, hso]
      · have hv : PyData.eqv (.list [.str n]) (.list [.str n]) = true := by simp [PyData.eqv, PyData.eqvAll]
        rw [hv]
        walk_at "rd"
        simp only [Bool.not_true, Bool.false_eq_true, if_false]
        have k57 : Kp H5 H7 := fun b o e => k7 _ _ (k6 _ _ e)
        have ha7 := k57 _ _ ha5
        rw [opn_cons] at ha7
        refine ⟨.inl ⟨rfl, _, SqL.of ha7⟩, ar, _, .str n, rfl, rfl, ha7, by simp, ?_⟩
        rw [List.dropLast_concat]
        generalize hG : upd H7 ar _ = H8
        obtain ⟨k8, e8⟩ := gen_chg hG
        clear hG
        refine ⟨zs', _, seen, _, _, _, fun b o e => k8 _ _ (k57 _ _ (k35 _ _ (k3 _ _ e))) (ne_of_none e arH), k8 _ _ (k57 _ _ hs5) hsa, e8, hr2, hn, by omega, rfl⟩
  · rintro σ H3 ⟨zs, c, seen, x, y, z, k3, hs3, ha3, hr, hn, hsl, rfl⟩
    rw [List.length_map, List.drop_length] at hr
    obtain ⟨rfl, rfl⟩ := hr
    walk_at "rd"
    rw [o_tru]
    walk_at "rd"
    refine ⟨false, .inl ⟨_, SqL.of ha3, rfl⟩, ?_⟩
    simpa using q H3 k3
end
end Tw
set_option Elab.async false
set_option linter.all false
set_option maxRecDepth 100000
set_option maxHeartbeats 4000000
/-! len(set(t)), t a tuple of texts, however many -/
namespace Tw
open PySem PySem.Spec PyProof.Rows L2
/-- how many unlike ones stand among the first i -/
def dcnt (xs : List Str) : Nat → Nat
  | 0 => 0
  | i + 1 => dcnt xs i + if (xs.take i).any (· == xs.getD i Str.empty) then 0 else 1
theorem dcnt_le (xs : List Str) : ∀ i, dcnt xs i ≤ i
  | 0 => Nat.le_refl _
  | i + 1 => by
    have := dcnt_le xs i
    unfold dcnt
    split <;> omega
theorem dcnt_nodup {xs : List Str} (h : xs.Nodup) : ∀ i, i ≤ xs.length → dcnt xs i = i
  | 0, _ => rfl
  | i + 1, hi => by
    unfold dcnt
    have hlt : i < xs.length := hi
    have e : xs.getD i Str.empty = xs[i] := by rw [List.getD_eq_getElem?_getD, List.getElem?_eq_getElem hlt]; rfl
    have no : ((xs.take i).any fun k => k == xs.getD i Str.empty) = false := by
      rw [List.any_eq_false]
      intro x hx hb
      rw [e] at hb
      have e2 : x = xs[i] := beq_iff_eq.mp hb
      obtain ⟨j, hj, e3⟩ := List.mem_take_iff_getElem.mp hx
      have := (List.getElem_inj h).mp (e3.trans e2)
      omega
    rw [no, dcnt_nodup h i (by omega)]
    rfl
section
variable {prog : Program} {w : World} {A : Around} {R : Result → Shared → Prop} {I : Addr} {fp wr : List Addr} {G : Array GenState → Array GenState → Prop} {n : Nat} {P : Nat → Value → Prop} {St : Nat → Shared → Prop}
abbrev SetUpTo (prog : Program) (w : World) (h : Heap) (S : Addr) (xs : List Str) (i : Nat) : Prop := h.SetOf (PySem.strKind prog w) S (fun k => (xs.take i).any (· == k)) (dcnt xs i)
theorem SetUpTo.heap {h h' : Heap} {S : Addr} {xs : List Str} {i : Nat} (q : SetUpTo prog w h S xs i) (k : ∀ o, h.get? S = some o → h'.get? S = some o) : SetUpTo prog w h' S xs i := by
  obtain ⟨o, es, ep, t, ho, rest⟩ := q
  exact ⟨o, es, ep, t, k o ho, rest⟩
theorem take_any {xs : List Str} {i : Nat} (h : i < xs.length) (k : Str) : ((xs.take i).any (· == k) || decide (k = xs.getD i Str.empty)) = (xs.take (i + 1)).any (· == k) := by
  have e : xs.getD i Str.empty = xs[i] := by rw [List.getD_eq_getElem?_getD, List.getElem?_eq_getElem h]; rfl
  rw [List.take_add_one, List.getElem?_eq_getElem h, List.any_append, e]
  congr 1
  by_cases z : k = xs[i]
  · subst z; simp
  · have z2 : ¬ xs[i] = k := fun y => z y.symm
    simp [z, z2]
theorem set_loop (W : WalksS prog w A.in1 I fp wr G n P St) (S : Addr) (hSf : S ∉ fp) (xs : List Str) (hsz : xs.length = n) (hn : n < 4000) (hval : ∀ i v, P i v → ∃ t, v = .str (xs.getD i Str.empty) t) :
    ∀ (k i : Nat) (s : Shared), n - i = k → i ≤ n → St i s → SetUpTo prog w s.heap S xs i → (∀ s', Moved (S :: wr) G s s' → SetUpTo prog w s'.heap S xs n → R (.ok (.ret .none)) s') →
      codeAny (model prog w) A (.builtin "set.update.loop" ⟨[.ref S, .ref I], []⟩) R s := by
  have hSw : S ∉ wr := fun h => hSf (W.sub _ h)
  intro k
  induction k with
  | zero =>
    intro i s hk hi hst hS hR
    obtain rfl : i = n := by omega
    refine codeAny_builtin F.entry_set_update_loop ?_
    rw [Around.under_plainId F.plain_set_update_loop _]
    show wpAny _ A.in1 (pyNext (.ref I) >>= _) _ _ s
    refine wpAny_bind (W.done s _ _ hst fun s' hm => ?_)
    show wpAny _ A.in1 (ret Value.none) _ _ s'
    exact wpAny_pure (hR s' (hm.mono fun b hb => List.mem_cons_of_mem _ hb) (hS.heap fun o ho => hm.heap S o hSw ho))
  | succ k ih =>
    intro i s hk hi hst hS hR
    have hlt : i < n := by omega
    refine codeAny_builtin F.entry_set_update_loop ?_
    rw [Around.under_plainId F.plain_set_update_loop _]
    show wpAny _ A.in1 (pyNext (.ref I) >>= _) _ _ s
    refine wpAny_bind (W.item i s _ _ hlt hst fun v s' hP hst' hm => ?_)
    obtain ⟨t, rfl⟩ := hval i v hP
    have hS1 := hS.heap fun o ho => hm.heap S o hSw ho
    show wpAny _ A.in1 (holding [Value.str (xs.getD i Str.empty) t] (setAdd S (.str (xs.getD i Str.empty) t)) >>= _) _ _ s'
    refine wpAny_bind (wpAny_holding ?_)
    unfold setAdd
    refine wpAny_holding (wpAny_bind ((PySem.strKind prog w).pyHash (k := xs.getD i Str.empty) (strKind_is _ _ _ _) ?_))
    refine wpAny_setAddHashed_of (knd := PySem.strKind prog w) (s := { s' with toks := s'.toks + 1 }) (strKind_is _ _ _ _) rfl hS1 (by have := dcnt_le xs i; unfold scanBound; omega) fun h' hsb hS2 => ?_
    have hS3 : SetUpTo prog w h' S xs (i + 1) := by
      refine SetOf_congr hS2 (fun k => take_any (by omega) k) ?_
      show (if (xs.take i).any (· == xs.getD i Str.empty) then dcnt xs i else dcnt xs i + 1) = dcnt xs (i + 1)
      conv => rhs; unfold dcnt
      split <;> rfl
    have keep : ∀ b o, b ≠ S → s'.heap.get? b = some o → h'.get? b = some o := fun b o hb e => by rw [hsb.2 b hb]; exact e
    refine wpAny_pure ⟨plainId_quiet F.plain_set_update_loop _, ih (i + 1) _ (by omega) hlt (W.frame _ s' _ _ hst' (Nat.le_succ _) fun b hb o e => keep b o (fun h => hSf (h ▸ hb)) e) hS3 fun s'' hm2 hS4 => ?_⟩
    exact hR s'' (Moved.trans W.gtrans ((hm.mono fun b hb => List.mem_cons_of_mem _ hb).then_heap (Nat.le_succ _) fun b o hb e => keep b o (fun h => hb (by rw [h]; exact List.mem_cons_self)) e) hm2) hS4
end
section
variable {prog : Program} {w : World} {A : Around} {E : Value → Shared → Prop} {s : Shared}
/-- an empty set, as it is made -/
abbrev bareSet (led : Bool) : Obj := { cls := .type "set", dict := none, data := .set #[] 0 (.fresh 0 0 led) }
theorem set_init {led : Bool} {l : Addr} {items : Array Value} {xs : List Str} {A : Around} (hh : A.handled = none) (hl : s.heap.IsTuple l items) (hi : StrsAre items.toList xs) (hn : xs.length < 4000) {Q : PySem.Fin → Shared → Prop}
    (h : ∀ (h' : Heap) (tk : Nat), SetUpTo prog w h' s.heap.objs.size xs xs.length → (∀ b o, b < s.heap.objs.size → s.heap.get? b = some o → h'.get? b = some o) → Q (.done (.ret .none)) { s with heap := h', toks := tk }) :
    wpAny (model prog w) A (Builtin.«set.__init__» ⟨[.ref s.heap.objs.size, .ref l], []⟩) Q E { s with heap := s.heap.push (bareSet led) } := by
  have hT : (s.heap.push (bareSet led)).IsTuple l items := by
    obtain ⟨o, ho, hc, n, hd⟩ := hl
    exact ⟨o, Heap.get?_push_of_some _ ho, hc, n, hd⟩
  have hTk := hT
  obtain ⟨ol, hol, hcl, nl, hdl⟩ := hT
  obtain ⟨c1, c2, c3, c4⟩ := ol
  simp only at hcl hdl
  subst hcl; subst hdl
  have q1 := PySem.F.sub_tuple_set
  have q2 := PySem.F.sub_tuple_frozenset
  have q3 : (Value.type "tuple" == Value.type "dict") = false := by decide
  have hS : (s.heap.push (bareSet led)).get? s.heap.objs.size = some (bareSet led) := Heap.get?_push_size _ rfl
  unfold Builtin.«set.__init__» noKeywords Builtin.Frozenset.updateFrom
  generalize hPI : pyIter = PI
  wp_walk
  subst hPI
  refine wpAny_pyIter_tuple hTk ?_
  refine wpAny_bind (wpAny_runValue ?_)
  have hlS : l < s.heap.objs.size := by
    obtain ⟨o, ho, _⟩ := hl
    exact Heap.lt_size ho
  have ne1 : l ≠ (s.heap.push (bareSet led)).objs.size := by rw [Heap.size_push]; exact Nat.ne_of_lt (Nat.lt_succ_of_lt hlS)
  have ne2 : s.heap.objs.size ∉ [(s.heap.push (bareSet led)).objs.size, l] := by
    rw [Heap.size_push]
    intro hm
    rcases List.mem_cons.mp hm with e | hm
    · exact absurd e (Nat.ne_of_lt (Nat.lt_succ_self _))
    · exact absurd (List.mem_singleton.mp hm) (Nat.ne_of_gt hlS)
  have hsz : xs.length = items.size := by rw [← StrsAre.len_eq hi, Array.length_toList]
  refine set_loop ((Walks.tuple (by simp [hh]) _ l ne1 items).toS) s.heap.objs.size ne2 xs hsz (by rw [← hsz]; exact hn) (fun i v hv => SS.strs_at hi i v (by rw [Array.getElem?_toList]; exact hv)) (items.size - 0) 0 _ (by omega) (Nat.zero_le _) ⟨⟨_, Heap.get?_push_size _ rfl, rfl, rfl⟩, hTk.push _⟩ ?_ ?_
  ·
    exact SetOf_congr ((PyProof.Rows.setObjOf_fresh (knd := PySem.strKind prog w) led).setOf (Heap.get?_push_of_some _ hS) (by unfold scanBound; omega)) (fun _ => rfl) rfl
  ·
    intro s' hm hS'
    obtain ⟨h', g', d', tk', os'⟩ := s'
    obtain rfl : g' = s.gens := hm.gens
    obtain rfl : d' = s.drawn := hm.drawn
    obtain rfl : os' = s.os := hm.os
    show wpAny _ _ _ _ _ _
    refine wpAny_pure ?_
    show wpAny _ _ (ret Value.none) _ _ _
    refine wpAny_pure (h h' tk' (by rw [hsz]; exact hS') fun b o hb e => ?_)
    refine hm.heap b o (fun hmem => ?_) (Heap.get?_push_of_some _ (Heap.get?_push_of_some _ e))
    rcases List.mem_cons.mp hmem with e1 | hmem
    · exact absurd e1 (Nat.ne_of_lt hb)
    · have e2 := List.mem_singleton.mp hmem
      rw [Heap.size_push] at e2
      exact absurd e2 (Nat.ne_of_lt (Nat.lt_succ_of_lt hb))
theorem call_set_tup {l : Addr} {items : Array Value} {xs : List Str} {Q : Value → Shared → Prop} (hh : A.handled = none) (hl : s.heap.IsTuple l items) (hi : StrsAre items.toList xs) (hn : xs.length < 4000)
    (h : ∀ (h' : Heap) (tk : Nat), SetUpTo prog w h' s.heap.objs.size xs xs.length → (∀ b o, b < s.heap.objs.size → s.heap.get? b = some o → h'.get? b = some o) → Q (.ref s.heap.objs.size) { s with heap := h', toks := tk }) :
    wpAny (model prog w) A (call (.type "set") [.ref l]) Q E s := by
  obtain ⟨mc, mt, hmro⟩ := PySem.F.called_set.mro
  have a1 := PySem.F.called_set.made
  have a2 := PySem.F.called_set.sub
  have a3 := PySem.F.called_set.notType
  have a4 := PySem.F.called_set.canCreate
  have a5 := PySem.F.typeCall_set_1 (.ref l)
  refine wpAny_call (codeAny_of_tree ?_)
  show wpAny _ _ (callAny (.type "set") _) _ _ _
  refine wpAny_pure ⟨Code.quiet_builtin _ (by decide +kernel), codeAny_builtin PySem.F.entry_type_call ?_⟩
  rw [Around.under_plain (weight_type_call_type "set" [.ref l] []) rfl]
  repeat (any_goals (first | assumption | wp_step))
  refine codeAny_mono (code_set_new_1 (.ref l) (E := E) (Q₁ := fun obj s₁ => ∃ led : Bool, obj = .ref s.heap.objs.size ∧ s₁ = { s with heap := s.heap.push (bareSet led) }) fun led => ⟨led, rfl, rfl⟩) fun r s₁ hr => ?_
  rcases r with e | (_ | _ | _ | obj)
  all_goals first | exact hr | exact hr.elim | skip
  obtain ⟨led, rfl, rfl⟩ := hr
  have hS : (s.heap.push (bareSet led)).get? s.heap.objs.size = some (bareSet led) := Heap.get?_push_size _ rfl
  have hT : Shared.TypeIs { s with heap := s.heap.push (bareSet led) } (.ref s.heap.objs.size) "set" := ⟨_, hS, rfl⟩
  have b1 := PySem.F.called_set.init.lookup
  have b2 := PySem.F.called_set.init.bind (.ref s.heap.objs.size)
  repeat (any_goals (first | assumption | wp_step))
  refine codeAny_mono (codeAny_call_builtin (R := wants (fun r s₂ => r = .none ∧ ∃ h' tk, s₂ = { s with heap := h', toks := tk } ∧ SetUpTo prog w h' s.heap.objs.size xs xs.length ∧ (∀ b o, b < s.heap.objs.size → s.heap.get? b = some o → h'.get? b = some o)) E)
    PySem.F.called_set.init.plain PySem.F.entry_set_init (check_set_init_1 hT ?_)) fun r₂ s₂ hr₂ => ?_
  · exact set_init (by simp [hh]) hl hi hn fun h' tk hS' hk => ⟨rfl, h', tk, rfl, hS', hk⟩
  · rcases r₂ with e | (_ | _ | _ | r)
    all_goals first | exact hr₂ | exact hr₂.elim | skip
    obtain ⟨rfl, h', tk, rfl, hS', hk⟩ := hr₂
    repeat (any_goals (first | assumption | wp_step))
    exact h _ _ hS' hk
end
section
variable {X : Cx}
/-- len(set(t)) -/
def tLenSetT (K : PySem.W.Frag) (ta : TE) : TE := fun σ H Q => ta σ H fun x H1 => ∃ (l : Addr) (xs : List Str), x = .ref l ∧ SqT K H1 l (xs.map V.str) ∧ xs.length < 4000 ∧ Q (.int (dcnt xs xs.length : Nat)) H1
theorem pe_lenSetT {a : Expr} {ta : TE} {p p2 q pos : Pos} (hm : X.mg "len" = none) (hm2 : X.mg "set" = none) (ha : PE X a ta) (hc : X.calm = true := by rfl) (hg : Gl X "len" := by rfl) (hg2 : Gl X "set" := by rfl)
    (na : starEach [a] X.env = (false, eval a X.env) :: starEach [] X.env := by rfl) : PE X (.Call (.Name "len" p) [.Call (.Name "set" p2) [a] [] q] [] pos) (tLenSetT X.K ta) := by
  refine ⟨fun pins s σ H Q I h => ?_⟩
  refine Call_ (ld_blt I hg hm boot_len (callWith_builtin1 (args_cons ?_ rfl) rfl rfl))
  refine Call_ (ld_blt I hg2 hm2 boot_set (callWith_type1 (args_cons (thn (ha.run pins s σ H _ I h) fun v s1 ⟨x, H1, I1, r1, l, xs, ex, hq, hn, q1⟩ => args_nil ?_) na) na rfl))
  subst ex
  cases r1
  obtain ⟨its, r, pl, _⟩ := I1.tuple hq
  refine call_set_tup (I1.ok.hd hc) pl (by simpa using strsAre_of r) hn fun h' tk hS hk => args_nil ?_
  obtain ⟨o, es, ep, t, ho, hex, hd, _, _, _, hf, hcount⟩ := hS
  have I2 := I1.kept (t' := tk) fun b o e => hk b o (Heap.lt_size e) e
  refine call_len_set ho hex hd hf ?_ ⟨.int (dcnt xs xs.length : Nat), H1, I2.tok _, ⟨_, by rw [hcount]⟩, q1⟩
  rw [hcount]
  have := dcnt_le xs xs.length
  omega
end
section
variable {X : Cx}
/-- what a for walks: a list or a tuple -/
def iSeq (K : PySem.W.Frag) (te : TE) : TI := fun σ H R => te σ H fun x H1 => ∃ a, x = .ref a ∧ (((∃ xs, SqL K H1 a xs) ∧ R (Itl K a) H1) ∨ ((∃ xs, SqT K H1 a xs) ∧ R (Itt K a) H1))
theorem pi_seq {tg l : Expr} {te : TE} (hl : PE X l te) : PI X tg l (iSeq X.K te) := by
  refine ⟨fun pins s σ H R I h => thn (hl.run pins s σ H _ I h) fun v s1 ⟨x, H1, I1, r1, a, e, q⟩ => ?_⟩
  subst e
  cases r1
  have own : ∀ b ∈ [s1.heap.objs.size], b = s1.heap.objs.size := fun b hb => List.mem_singleton.mp hb
  rcases q with ⟨⟨xs, hq⟩, q⟩ | ⟨⟨xs, hq⟩, q⟩
  · obtain ⟨its, rv, p, _⟩ := I1.list hq
    refine wpAny_pyIter_list p.isList ⟨s1.heap.objs.size, [s1.heap.objs.size], _, _, H1, rfl, I1.kept (t' := s1.toks) fun b o e => Heap.get?_push_of_some _ e, turn_list a _, ⟨_, Heap.get?_push_size _ rfl, rfl, rfl⟩, fun b hb => ?_, q⟩
    rw [own b hb]
    exact I1.fpOk (Nat.le_refl _) (I1.hok.fresh (Nat.le_refl _))
  · obtain ⟨its, rv, p, _⟩ := I1.tuple hq
    refine wpAny_pyIter_tuple (show s1.heap.IsTuple a its.toArray from p) ⟨s1.heap.objs.size, [s1.heap.objs.size], _, _, H1, rfl, I1.kept (t' := s1.toks) fun b o e => Heap.get?_push_of_some _ e, turn_tuple a _, ⟨_, Heap.get?_push_size _ rfl, rfl, rfl⟩, fun b hb => ?_, q⟩
    rw [own b hb]
    exact I1.fpOk (Nat.le_refl _) (I1.hok.fresh (Nat.le_refl _))
end
end Tw
set_option Elab.async false
set_option linter.all false
set_option maxRecDepth 100000
set_option maxHeartbeats 4000000
/-! the wood of a row -/
namespace Tw
open PySem PySem.Spec PyProof.Rows L2 TL
local macro_rules | `(tactic| walk_at "rd") => `(tactic| try simp only [o_op, o_un, o_var, o_c, o_cb, o_call, o_cons, o_nil, o_tup, o_lst, o_I0, o_I, o_int1, o_intb, o_abs, o_test, o_b, o_not, o_and, o_or, o_andV, o_orV, o_notV, o_ifE, o_isN, o_notN, o_eq, o_ne, o_seq, o_next, o_asg, o_name, o_sub, o_par, o_par3, o_drop, o_ret, o_retN, o_ifS, o_sl, o_noPart, o_part, o_bm, o_bm0, o_m0, o_m1, o_dget, o_dput, o_din, o_dnotin, o_listKeys, e_bl, e_int, e_str, e_some, e_two, e_three, o_for, o_lc, o_iList, o_iTup, o_iRng1, e_int1, e_ref, o_yes, o_wipe0, o_wipe1, o_disp, o_dnew, o_pairs0, o_pairs1, o_lock, o_keysM, o_gtup, o_gcons, o_gnil, true_and, if_pos, List.getElem?_cons_zero, List.getElem?_cons_succ, List.set_cons_zero, List.set_cons_succ, List.append_nil])
def t_unchecked_wood_b1 (K : PySem.W.Frag) : TS :=
  (tIfS (tTest (tOp rEq (tOp rIxS (tVar 3) (tC (.int 0))) (tC (.str "+")))) (tDrop (tBM K "list" rAppend (tVar 2) (tCons (tCB (rLenSeq K) (tCons (tVar 1) tNil)) tNil))) (tSeq (tAsg (tBM0 K "list" rPop (tVar 2)) (gName 4))
  (tAsg (tLst (tCons (tTup (tCons (L2.tSl rSlS (tVar 3) (tPart (tC (.int 1))) tNoPart) (tCons (tCB (rTupleOf K) (tCons (L2.tSl (rSlL K) (tVar 1) (tPart (tVar 4)) tNoPart) tNil)) tNil))) tNil)) (gFrom (tVar 1) (tVar 4)))))
def t_unchecked_wood (K : PySem.W.Frag) : TS :=
  (tSeq (tAsg (tLst tNil) (gName 1))
  (tSeq (tAsg (tLst tNil) (gName 2))
  (tSeq (tFor (iSeq K (tVar 0)) (gName 3)
  (t_unchecked_wood_b1 K))
  (tRet (tCB (rTupleOf K) (tCons (tVar 1) tNil))))))
section
variable {K : PySem.W.Frag} {σ : L2.St} {H : Hp} {te : TE} {D : Ends} {t : TS} {g : TG}
theorem o_seqI {R : It → Hp → Prop} : iSeq K te σ H R = te σ H fun x H1 => ∃ a, x = .ref a ∧ (((∃ xs, SqL K H1 a xs) ∧ R (Itl K a) H1) ∨ ((∃ xs, SqT K H1 a xs) ∧ R (Itt K a) H1)) := rfl
theorem fb_seq {a : Addr} {xs : List V} {H0 : Hp} (h00 : SqL K H0 a xs ∨ SqT K H0 a xs) (Pv : Nat → L2.St → Hp → Prop) (h0 : Pv 0 σ H) (hl : ∀ i σ H', i ≤ xs.length → Pv i σ H' → (SqL K H0 a xs → SqL K H' a xs) ∧ (SqT K H0 a xs → SqT K H' a xs))
    (hs : ∀ i x σ H, xs[i]? = some x → Pv i σ H → g x σ H fun σ2 H2 => t { D with nx := Pv (i + 1), ct := Pv (i + 1), bk := D.nx } σ2 H2) (hd : ∀ σ H, Pv xs.length σ H → D.nx σ H) :
    ((∃ xs, SqL K H a xs) ∧ ForB (Itl K a) g t D σ H) ∨ ((∃ xs, SqT K H a xs) ∧ ForB (Itt K a) g t D σ H) := by
  rcases h00 with h | h
  · have hH := (hl 0 σ H (Nat.zero_le _) h0).1 h
    exact .inl ⟨⟨_, hH⟩, fb_list Pv h0 (fun i σ H' hi p => (hl i σ H' hi p).1 h) hs hd⟩
  · have hH := (hl 0 σ H (Nat.zero_le _) h0).2 h
    exact .inr ⟨⟨_, hH⟩, fb_tup Pv h0 (fun i σ H' hi p => (hl i σ H' hi p).2 h) hs hd⟩
end
/-- all trees that are done, whatever is open -/
def flat : List (Fo × Str) → Fo
  | [] => .nil
  | z :: zs => (flat zs).app z.1
def begs : List (Fo × Str) → List V
  | [] => []
  | z :: zs => begs zs ++ [.int ((flat (z :: zs)).tops.length : Nat)]
theorem begs_len : ∀ zs, (begs zs).length = zs.length
  | [] => rfl
  | z :: zs => by rw [begs, List.length_append, begs_len zs]; rfl
theorem o_from {to ti : TE} {v : V} {σ : L2.St} {H : Hp} {Q : L2.St → Hp → Prop} : gFrom to ti v σ H Q = to σ H fun o H1 => ti σ H1 fun i H2 => ∃ (l b : Addr) (xs ys : List V) (a : Int), o = .ref l ∧ i = .int a ∧ v = .ref b ∧ H2 l = some (.lst xs) ∧ H2 b = some (.lst ys) ∧ l ≠ b ∧ 0 ≤ a ∧ a ≤ xs.length ∧ xs.length + ys.length ≤ sizeLine ∧ Q σ (upd H2 l (.lst (xs.take a.toNat ++ ys))) := rfl
section
variable {K : PySem.W.Frag}
theorem sql_kp {H H' : Hp} {a : Addr} {xs : List V} (h : SqL K H a xs) (k : Kp H H') : SqL K H' a xs := by
  rcases h with (h | ⟨o, h⟩) | h
  · exact .inl (.inl (k _ _ h))
  · exact .inl (.inr ⟨o, k _ _ h⟩)
  · exact .inr h
theorem sq_kp {H H' : Hp} {a : Addr} {xs : List V} (h : SqL K H a xs ∨ SqT K H a xs) (k : Kp H H') : SqL K H' a xs ∨ SqT K H' a xs := by
  rcases h with h | h
  · exact .inl (sql_kp h k)
  · exact .inr (Tk.kp k _ _ h)
theorem sq_two {H H' : Hp} {a : Addr} {xs : List V} (_ : SqL K H a xs ∨ SqT K H a xs) (k : Kp H H') : (SqL K H a xs → SqL K H' a xs) ∧ (SqT K H a xs → SqT K H' a xs) := ⟨fun h => sql_kp h k, fun h => Tk.kp k _ _ h⟩
theorem Rp.app {H : Hp} {v1 v2 : List V} {f g : Fo} (h1 : Rp K H v1 f) (h2 : Rp K H v2 g) : Rp K H (v1 ++ v2) (f.app g) := by
  induction h1 with
  | nil => exact h2
  | cons a b c _ _ ih => exact .cons a b c ih
theorem Rp.split {H : Hp} : ∀ {vs : List V} {f g : Fo}, Rp K H vs (f.app g) → ∃ v1 v2, vs = v1 ++ v2 ∧ Rp K H v1 f ∧ Rp K H v2 g
  | vs, .nil, g, h => ⟨[], vs, rfl, .nil, h⟩
  | _, .cons n ks r, g, .cons a b c d => by
    obtain ⟨v1, v2, e, h1, h2⟩ := Rp.split (f := r) d
    exact ⟨_ :: v1, v2, by rw [e]; rfl, .cons a b c h1, h2⟩
theorem pure_unchecked_wood (vs : List V) (H : Hp) (Q : VK) (E : XK) (h : sp_unchecked_wood K vs H Q E) : t_unchecked_wood K { nx := fun _ H' => Q .non H', rt := Q } (startN 5 vs) H := by
  obtain ⟨a, f, rfl, ha, hf, q⟩ := h
  show t_unchecked_wood K _ [some (.ref a), none, none, none, none] H
  unfold t_unchecked_wood
  have hz := sizeLine_eq
  have hsz := hf.sz
  walk_at "rd"
  refine ⟨Nat.zero_le _, fun dn hdn => ?_⟩
  generalize hG : upd H dn _ = H1
  obtain ⟨k1, e1⟩ := gen_new hdn hG
  clear hG
  refine ⟨Nat.zero_le _, fun bn hbn => ?_⟩
  generalize hG : upd H1 bn _ = H2
  obtain ⟨k2, e2⟩ := gen_new hbn hG
  clear hG
  have k02 : Kp H H2 := fun b o e => k2 _ _ (k1 _ _ e)
  have dnbn : dn ≠ bn := ne_of_none e1 hbn
  have dnH : H dn = none := hdn
  have bnH : H bn = none := Kp.free k1 hbn
  rw [o_seqI]
  walk_at "rd"
  rw [Fo.row_erow, List.map_map] at ha
  have hlen : f.erow.length = 2 * f.nm.length := by rw [← row_len f, Fo.row_erow, List.length_map]
  refine fb_seq (xs := f.erow.map (V.str ∘ en)) (H0 := H) ha (fun i σ H3 => ∃ zs c ws x y, Kp H H3 ∧ H3 dn = some (.lst ws) ∧ Rp K H3 ws ((flat zs).app c) ∧ H3 bn = some (.lst (begs zs)) ∧ Runs 1000 (f.erow.drop i) zs c f ∧ ws.length ≤ i ∧ i ≤ f.erow.length ∧ zs.length ≤ i ∧
    σ = [some (.ref a), some (.ref dn), some (.ref bn), x, y]) ?_ ?_ ?_ ?_
  · exact ⟨[], .nil, [], _, _, k02, k2 _ _ e1, .nil, e2, runs_all f (by have := Fo.dp_le f; omega), Nat.le_refl _, Nat.zero_le _, Nat.zero_le _, rfl⟩
  · rintro i σ H3 _ ⟨zs, c, ws, x, y, k3, _⟩
    exact sq_two ha k3
  · rintro i v σ H3 hx ⟨zs, c, ws, x, y, k3, hd3, rp, hb3, hr, hwl, hi, hzl, rfl⟩
    rw [List.getElem?_map, Option.map_eq_some_iff] at hx
    obtain ⟨e, he, rfl⟩ := hx
    rw [drop_at he] at hr
    have hi2 := (List.getElem?_eq_some_iff.mp he).1
    have hie : IsName e.2 := hf.nms _ (erow_nm f e (List.mem_of_getElem? he))
    have h8 := hie.eight
    unfold t_unchecked_wood_b1
    walk_at "rd"
    refine o_ixS (by rw [en_len]; omega) (en_at0 e) ⟨rfl, ?_⟩
    obtain ⟨b, n⟩ := e
    cases b with
    | true =>
      obtain ⟨hlt, hr2⟩ := hr
      refine ite2 (fun _ => ?_) fun h => absurd (by simpa using p43) h
      refine ⟨.inl ⟨rfl, _, SqL.of hb3⟩, dn, _, rfl, .inl (SqL.of hd3), bn, _, _, rfl, rfl, hb3, by rw [begs_len]; omega, ?_⟩
      generalize hG : upd H3 bn _ = H4
      obtain ⟨k4, e4⟩ := gen_chg hG
      clear hG
      refine ⟨(c, n) :: zs, .nil, ws, _, _, fun b o e => k4 _ _ (k3 _ _ e) (ne_of_none e bnH), k4 _ _ hd3 dnbn, ?_, ?_, hr2, by omega, by omega, by rw [List.length_cons]; omega, rfl⟩
      · rw [Fo.app_nil]
        exact rp.mono (Tk.but (.inl ⟨_, hb3⟩) k4)
      · rw [e4, begs, rp.len]; rfl
    | false =>
      obtain ⟨l, zs', rfl, hr2⟩ := hr
      refine ite2 (fun h => absurd (by simpa using h) p45) fun _ => ?_
      walk_at "rd"
      refine ⟨.inl ⟨rfl, _, SqL.of hb3⟩, bn, _, .int ((flat ((l, n) :: zs')).tops.length : Nat), rfl, rfl, hb3, by rw [begs]; simp, ?_⟩
      rw [begs, List.dropLast_concat]
      generalize hG : upd H3 bn _ = H4
      obtain ⟨k4, e4⟩ := gen_chg hG
      clear hG
      have hd4 := k4 _ _ hd3 dnbn
      obtain ⟨v1, v2, rfl, rp1, rp2⟩ := rp.split
      have hb : ((flat ((l, n) :: zs')).tops.length : Nat) = v1.length := rp1.len.symm
      rw [hb]
      walk_at "rd"
      refine ⟨en (false, n), rfl, by rw [en_len]; omega, dn, _, rfl, SqL.of hd4, fun p1 hp1 => ?_⟩
      rw [en_cut1]
      have hc : cutV (v1 ++ v2) (some (v1.length : Int)) none = v2 := by
        unfold cutV
        rw [HT.sIx_none, HT.sIx_nat, List.length_append, Nat.min_eq_left (by omega)]
        simp
      rw [hc]
      generalize hG : upd H4 p1 _ = H5
      obtain ⟨k5, e5⟩ := gen_new hp1 hG
      clear hG
      refine ⟨p1, _, rfl, .inl ⟨SqL.of e5, fun p2 hp2 => ?_⟩⟩
      generalize hG : upd H5 p2 _ = H6
      obtain ⟨k6, e6⟩ := gen_new hp2 hG
      clear hG
      refine ⟨by show 2 ≤ sizeLine; omega, fun p3 hp3 => ?_⟩
      generalize hG : upd H6 p3 _ = H7
      obtain ⟨k7, e7⟩ := gen_new hp3 hG
      clear hG
      refine ⟨by show 1 ≤ sizeLine; omega, fun p4 hp4 => ?_⟩
      generalize hG : upd H7 p4 _ = H8
      obtain ⟨k8, e8⟩ := gen_new hp4 hG
      clear hG
      rw [o_from]
      walk_at "rd"
      have k48 : Kp H4 H8 := fun b o e => k8 _ _ (k7 _ _ (k6 _ _ (k5 _ _ e)))
      have hd8 := k48 _ _ hd4
      have dp4 : dn ≠ p4 := ne_of_none (k7 _ _ (k6 _ _ (k5 _ _ hd4))) hp4
      refine ⟨dn, p4, _, _, _, rfl, rfl, rfl, hd8, e8, dp4, by omega, by rw [List.length_append]; omega, by simp only [List.length_append, List.length_cons, List.length_nil] at hwl ⊢; omega, ?_⟩
      rw [Int.toNat_natCast, List.take_left]
      generalize hG : upd H8 dn _ = H9
      obtain ⟨k9, e9⟩ := gen_chg hG
      clear hG
      have t39 : Tk K H3 H9 := ((Tk.but (.inl ⟨_, hb3⟩) k4).trans (Tk.kp k48)).trans (Tk.but (.inl ⟨_, hd8⟩) k9)
      have t69 : Tk K H6 H9 := (Tk.kp fun b o e => k8 _ _ (k7 _ _ e)).trans (Tk.but (.inl ⟨_, hd8⟩) k9)
      have t79 : Tk K H7 H9 := (Tk.kp k8).trans (Tk.but (.inl ⟨_, hd8⟩) k9)
      refine ⟨zs', _, _, _, _, fun b o e => k9 _ _ (k48 _ _ (k4 _ _ (k3 _ _ e) (ne_of_none e bnH))) (ne_of_none e dnH), e9, ?_, k9 _ _ (k48 _ _ e4) dnbn.symm, hr2, ?_, by omega, by simp only [List.length_cons] at hzl; omega, rfl⟩
      · rw [← Fo.app_assoc]
        exact Rp.app (rp1.mono t39) (.cons (t79 _ _ (SqT.of e7)) (t69 _ _ (SqT.of e6)) (rp2.mono t39) .nil)
      · simp only [List.length_append, List.length_cons, List.length_nil] at hwl ⊢; omega
  · rintro σ H3 ⟨zs, c, ws, x, y, k3, hd3, rp, hb3, hr, hwl, hi, hzl, rfl⟩
    rw [List.length_map, List.drop_length] at hr
    obtain ⟨rfl, rfl⟩ := hr
    walk_at "rd"
    refine ⟨dn, _, rfl, .inl ⟨SqL.of hd3, fun p hp => ?_⟩⟩
    generalize hG : upd H3 p _ = H4
    obtain ⟨k4, e4⟩ := gen_new hp hG
    clear hG
    exact q p H4 (fun b o e => k4 _ _ (k3 _ _ e)) ⟨ws, SqT.of e4, rp.mono (Tk.kp k4)⟩
end
end Tw
set_option Elab.async false
set_option linter.all false
set_option maxRecDepth 100000
set_option maxHeartbeats 4000000
/-! the wood of a row, the row of a wood -/
namespace Tw
open PySem PySem.Spec PyProof.Rows L2 TL
local macro_rules | `(tactic| walk_at "rd") => `(tactic| try simp only [o_op, o_un, o_var, o_c, o_cb, o_call, o_cons, o_nil, o_tup, o_lst, o_I0, o_I, o_int1, o_intb, o_abs, o_test, o_b, o_not, o_and, o_or, o_andV, o_orV, o_notV, o_ifE, o_isN, o_notN, o_eq, o_ne, o_seq, o_next, o_asg, o_name, o_sub, o_par, o_par3, o_drop, o_ret, o_retN, o_ifS, o_sl, o_noPart, o_part, o_bm, o_bm0, o_m0, o_m1, o_dget, o_dput, o_din, o_dnotin, o_listKeys, e_bl, e_int, e_str, e_some, e_two, e_three, o_for, o_lc, o_iList, o_iTup, o_iRng1, e_int1, e_ref, o_yes, o_wipe0, o_wipe1, o_disp, o_dnew, o_pairs0, o_pairs1, o_lock, o_keysM, o_gtup, o_gcons, o_gnil, true_and, if_pos, List.getElem?_cons_zero, List.getElem?_cons_succ, List.set_cons_zero, List.set_cons_succ, List.append_nil])
def t_wood_of (K : PySem.W.Frag) : TS :=
  (tSeq (tIfS (tNot (tB (tIsi K "tuple" (tVar 0)))) tNever tNext)
  (tSeq (tAsg (tCall (sp_u_bad_place K) [] E0 (tCons (tVar 0) tNil)) (gName 1))
  (tSeq (tIfS (tB (tNotN (tVar 1))) tNever tNext)
  (tRet (tCall (sp_unchecked_wood K) [] E0 (tCons (tVar 0) tNil))))))
def t_row_of_b1 (K : PySem.W.Frag) : TS :=
  (tSeq (tAsg (tBM0 K "list" rPop (tVar 2)) (gName 3))
  (tIfS (tB (tIsi K "str" (tVar 3))) (tDrop (tBM K "list" rAppend (tVar 1) (tCons (tVar 3) tNil))) (tSeq (tAsg (tVar 3) (gTup K 2 (gCons (gName 4) (gCons (gName 5) gNil))))
  (tSeq (tDrop (tBM K "list" rAppend (tVar 1) (tCons (tJoined [(tC (.str "+")), (tFmt (tVar 4))]) tNil)))
  (tSeq (tDrop (tBM K "list" rAppend (tVar 2) (tCons (tJoined [(tC (.str "-")), (tFmt (tVar 4))]) tNil)))
  (tDrop (tBM K "list" (rExtendT K) (tVar 2) (tCons (tRevT K (tVar 5)) tNil))))))))
def t_row_of (K : PySem.W.Frag) : TS :=
  (tSeq (tAsg (tLst tNil) (gName 1))
  (tSeq (tAsg (tCB (rListOf K) (tCons (tRevT K (tVar 0)) tNil)) (gName 2))
  (tSeq (tWhile (tTru K (tVar 2))
  (t_row_of_b1 K))
  (tRet (tCB (rTupleOf K) (tCons (tVar 1) tNil))))))
section
variable {K : PySem.W.Frag}
theorem sqt_ty {H : Hp} {a : Addr} {xs : List V} (h : SqT K H a xs) : TyX K H (.ref a) (.type "tuple") := by
  rcases h with (h | ⟨ob, h⟩) | ⟨o, its, n, h1, h2, _⟩
  · exact .base (.tup h)
  · exact .fTuple h
  · exact .kTuple h1 h2
theorem o_isiT {H : Hp} {Q : VK} {a : Addr} {xs : List V} (h : SqT K H a xs) (q : Q (.bl true) H) : rIsiB K "tuple" [.ref a, .ty "tuple"] H Q := ⟨_, "tuple", true, rfl, (sqt_ty h), by decide +kernel, q⟩
theorem sqt_noStr {H : Hp} {a : Addr} {xs : List V} (h : SqT K H a xs) : NoStr K H (.ref a) := ⟨"tuple", (sqt_ty h), by decide +kernel⟩
theorem pure_wood_of (vs : List V) (H : Hp) (Q : VK) (E : XK) (h : sp_wood_of K vs H Q E) : t_wood_of K { nx := fun _ H' => Q .non H', rt := Q } (startN 2 vs) H := by
  obtain ⟨a, f, rfl, ha, hf, q⟩ := h
  show t_wood_of K _ [some (.ref a), none] H
  unfold t_wood_of
  walk_at "rd"
  refine o_isiT ha ?_
  walk_at "rd"
  simp only [Bool.not_true, Bool.false_eq_true, if_false]
  refine ⟨a, f, rfl, ha, hf, fun H1 k1 => ?_⟩
  walk_at "rd"
  simp only [decide_true, Bool.not_true, Bool.false_eq_true, if_false]
  exact ⟨a, f, rfl, .inr (Tk.kp k1 _ _ ha), hf.ok, fun p H2 k2 hw => q p H2 (fun b o e => k2 _ _ (k1 _ _ e)) hw⟩
/-! ### row_of -/
theorem o_revT {te : TE} {σ : L2.St} {H : Hp} {Q : VK} : tRevT K te σ H Q = te σ H fun x H1 => ∃ a xs, x = .ref a ∧ SqT K H1 a xs ∧ ∀ p, H1 p = none → Q (.ref p) (upd H1 p (.tup xs.reverse)) := rfl
/-- what is still to be told: an end, or a tree -/
abbrev Td := Str ⊕ (Str × Fo)
def tdOut : Td → List Str
  | .inl s => [s]
  | .inr z => (Fo.cons z.1 z.2 .nil).row
inductive TdAt (K : PySem.W.Frag) (H : Hp) : List V → List Td → Prop where
  | nil : TdAt K H [] []
  | str {s : Str} {vs : List V} {ts : List Td} : TdAt K H vs ts → TdAt K H (.str s :: vs) (.inl s :: ts)
  | tree {t k : Addr} {n : Str} {kvs vs : List V} {ks : Fo} {ts : List Td} : SqT K H t [.str n, .ref k] → SqT K H k kvs → Rp K H kvs ks → TdAt K H vs ts → TdAt K H (.ref t :: vs) (.inr (n, ks) :: ts)
theorem TdAt.mono {H H' : Hp} (t : Tk K H H') {vs : List V} {ts : List Td} (h : TdAt K H vs ts) : TdAt K H' vs ts := by
  induction h with
  | nil => exact .nil
  | str _ ih => exact .str ih
  | tree a b c _ ih => exact .tree (t _ _ a) (t _ _ b) (c.mono t) ih
def trees : Fo → List Td
  | .nil => []
  | .cons n ks r => .inr (n, ks) :: trees r
theorem TdAt.of {H : Hp} {vs ws : List V} {f : Fo} {ts : List Td} (h : Rp K H vs f) (hw : TdAt K H ws ts) : TdAt K H (vs ++ ws) (trees f ++ ts) := by
  induction h with
  | nil => exact hw
  | cons a b c _ _ ih => exact .tree a b c ih
theorem trees_out : ∀ f : Fo, ((trees f).map tdOut).flatten = f.row
  | .nil => rfl
  | .cons n ks r => by
    have h : (trees (.cons n ks r)).map tdOut = (Fo.cons n ks .nil).row :: (trees r).map tdOut := rfl
    rw [h, List.flatten_cons, trees_out r]
    simp [Fo.row]
def TdOk : Td → Prop
  | .inl s => s.length ≤ 200
  | .inr z => (∀ m ∈ (Fo.cons z.1 z.2 .nil).nm, m.length ≤ 100)
theorem trees_ok : ∀ {f : Fo}, (∀ m ∈ f.nm, m.length ≤ 100) → ∀ t ∈ trees f, TdOk t
  | .cons n ks r, h, t, ht => by
    rcases List.mem_cons.mp ht with e | ht
    · subst e
      intro m hm
      have hm2 : m ∈ n :: (ks.nm ++ []) := hm
      rw [List.append_nil] at hm2
      rcases List.mem_cons.mp hm2 with e | hm2
      · exact h m (e ▸ List.mem_cons_self ..)
      · exact h m (List.mem_cons_of_mem _ (List.mem_append_left _ hm2))
    · exact trees_ok (fun m hm => h m (List.mem_cons_of_mem _ (List.mem_append_right _ hm))) t ht
theorem td_le (ts : List Td) : ts.length ≤ ((ts.map tdOut).flatten).length := by
  induction ts with
  | nil => exact Nat.le_refl _
  | cons t ts ih =>
    rw [List.map_cons, List.flatten_cons, List.length_append, List.length_cons]
    have : 1 ≤ (tdOut t).length := by
      cases t with
      | inl s => exact Nat.le_refl _
      | inr z => show 1 ≤ (Fo.plus z.1 :: _).length; rw [List.length_cons]; omega
    omega
theorem TdAt.len {H : Hp} {vs : List V} {ts : List Td} (h : TdAt K H vs ts) : vs.length = ts.length := by
  induction h with
  | nil => rfl
  | str _ ih => simp [ih]
  | tree _ _ _ _ ih => simp [ih]
theorem joined_two {c n : Str} {σ : L2.St} {H : Hp} {i : Nat} {Q : VK} (hs : σ[i]? = some (some (.str n))) (hc : c.length ≤ 1) (hn : n.length ≤ 100) (q : Q (.str (c ++ n)) H) : tJoined [tC (.str c), tFmt (tVar i)] σ H Q := by
  have hz := sizeLine_eq
  have e0 : Str.empty ++ c = c := str_ext (by rw [tl_app]; rfl)
  have l2 : (c ++ n).length = c.length + n.length := by rw [len_tl, tl_app, List.length_append, ← len_tl, ← len_tl]
  show ∃ y : Str, V.str c = .str y ∧ (Str.empty ++ y).length ≤ sizeLine ∧ _
  refine ⟨c, rfl, by rw [e0]; omega, .str n, hs, .inl ⟨n, rfl, by omega, n, rfl, ?_, ?_⟩⟩
  · rw [e0, l2]; omega
  · rw [e0]; exact q
def RowInv (K : PySem.W.Frag) (H : Hp) (a rn tn : Addr) (f : Fo) (m : Nat) (σ : L2.St) (H4 : Hp) : Prop :=
  ∃ xs ws ts x y z, Kp H H4 ∧ H4 rn = some (.lst (xs.map V.str)) ∧ H4 tn = some (.lst ws.reverse) ∧ TdAt K H4 ws ts ∧ xs ++ (ts.map tdOut).flatten = f.row ∧ (∀ t ∈ ts, TdOk t) ∧ m = ((ts.map tdOut).flatten).length ∧
    σ = [some (.ref a), some (.ref rn), some (.ref tn), x, y, z]
theorem pure_row_of (vs : List V) (H : Hp) (Q : VK) (E : XK) (h : sp_row_of K vs H Q E) : t_row_of K { nx := fun _ H' => Q .non H', rt := Q } (startN 6 vs) H := by
  obtain ⟨a, f, rfl, ⟨fv, ha, rp⟩, hsz, hnm, q⟩ := h
  show t_row_of K _ [some (.ref a), none, none, none, none, none] H
  unfold t_row_of
  have hz := sizeLine_eq
  have hrl := row_len f
  walk_at "rd"
  refine ⟨Nat.zero_le _, fun rn hrn => ?_⟩
  generalize hG : upd H rn _ = H1
  obtain ⟨k1, e1⟩ := gen_new hrn hG
  clear hG
  rw [o_revT]
  walk_at "rd"
  refine ⟨a, _, rfl, Tk.kp k1 _ _ ha, fun p1 hp1 => ?_⟩
  generalize hG : upd H1 p1 _ = H2
  obtain ⟨k2, e2⟩ := gen_new hp1 hG
  clear hG
  refine ⟨p1, _, rfl, .inr (SqT.of e2), fun tn htn => ?_⟩
  generalize hG : upd H2 tn _ = H3
  obtain ⟨k3, e3⟩ := gen_new htn hG
  clear hG
  have k03 : Kp H H3 := fun b o e => k3 _ _ (k2 _ _ (k1 _ _ e))
  have rntn : rn ≠ tn := ne_of_none (k2 _ _ e1) htn
  have rnH : H rn = none := hrn
  have tnH : H tn = none := Kp.free (fun b o e => k2 _ _ (k1 _ _ e)) htn
  walk_at "rd"
  refine ⟨RowInv K H a rn tn f, ?_, ?_⟩
  · refine ⟨_, [], fv, trees f, _, _, _, k03, k3 _ _ (k2 _ _ e1), e3, ?_, by rw [List.nil_append, trees_out], trees_ok hnm, rfl, rfl⟩
    have := TdAt.of (rp.mono (Tk.kp k03)) (TdAt.nil (K := K))
    rwa [List.append_nil, List.append_nil] at this
  · rintro m σ H4 ⟨xs, ws, ts, x, y, z, k4, hr4, ht4, td, hrow, hok, rfl, rfl⟩
    rw [o_tru]
    walk_at "rd"
    refine ⟨!ws.reverse.isEmpty, .inl ⟨_, SqL.of ht4, rfl⟩, ?_⟩
    have hlx : xs.length + ((ts.map tdOut).flatten).length = 2 * f.nm.length := by rw [← List.length_append, hrow, hrl]
    cases td with
    | nil =>
      simp only [List.reverse_nil, List.isEmpty_nil, Bool.not_true, Bool.false_eq_true, if_false]
      refine ⟨rn, _, rfl, .inl ⟨SqL.of hr4, fun p hp => ?_⟩⟩
      generalize hG : upd H4 p _ = H5
      obtain ⟨k5, e5⟩ := gen_new hp hG
      clear hG
      have e6 : xs = f.row := by simpa using hrow
      exact q p H5 (fun b o e => k5 _ _ (k4 _ _ e)) (by rw [← e6]; exact SqT.of e5)
    | @str s vs ts td =>
      have hne : (!((V.str s :: vs).reverse).isEmpty) = true := by simp
      rw [hne, if_pos rfl]
      refine ⟨RowInv K H a rn tn f ((ts.map tdOut).flatten).length, fun σ' H' w => ⟨_, ?_, w⟩, ?_⟩
      rotate_left
      · unfold t_row_of_b1
        walk_at "rd"
        have hl : ((V.str s :: vs).reverse)[((V.str s :: vs).reverse).length - 1]? = some (.str s) := by simp
        refine ⟨.inl ⟨rfl, _, SqL.of ht4⟩, tn, _, _, rfl, rfl, ht4, hl, ?_⟩
        rw [List.reverse_cons, List.dropLast_concat]
        generalize hG : upd H4 tn _ = H5
        obtain ⟨k5, e5⟩ := gen_chg hG
        clear hG
        walk_at "rd"
        refine o_isiS ?_
        walk_at "rd"
        have hr5 := k5 _ _ hr4 rntn
        have hl1 : ((tdOut (.inl s) :: ts.map tdOut).flatten).length = 1 + ((ts.map tdOut).flatten).length := by rw [List.flatten_cons, List.length_append]; rfl
        rw [List.map_cons] at hlx hrow
        rw [hl1] at hlx
        refine ⟨.inl ⟨rfl, _, SqL.of hr5⟩, rn, _, _, rfl, rfl, hr5, by rw [List.length_map]; omega, ?_⟩
        generalize hG : upd H5 rn _ = H6
        obtain ⟨k6, e6⟩ := gen_chg hG
        clear hG
        refine ⟨xs ++ [s], vs, ts, _, _, _, fun b o e => k6 _ _ (k5 _ _ (k4 _ _ e) (ne_of_none e tnH)) (ne_of_none e rnH), by rw [e6]; simp, k6 _ _ e5 rntn.symm, td.mono ((Tk.but (.inl ⟨_, ht4⟩) k5).trans (Tk.but (.inl ⟨_, hr5⟩) k6)), ?_, fun t ht => hok t (List.mem_cons_of_mem _ ht), rfl, rfl⟩
        rw [List.append_assoc]; exact hrow
      · rw [List.map_cons, List.flatten_cons, List.length_append]
        show _ < 1 + _
        omega
    | @tree t k n kvs vs ks ts at_ ak rk td =>
      have hne : (!((V.ref t :: vs).reverse).isEmpty) = true := by simp
      rw [hne, if_pos rfl]
      have hout : ((tdOut (.inr (n, ks)) :: ts.map tdOut).flatten) = Fo.plus n :: ((((trees ks ++ (.inl (Fo.minus n) :: ts)).map tdOut).flatten)) := by
        rw [List.map_append, List.flatten_append, trees_out]
        show (Fo.cons n ks .nil).row ++ _ = Fo.plus n :: (ks.row ++ (Fo.minus n :: _))
        simp [Fo.row]
      rw [List.map_cons, hout] at hlx hrow
      rw [List.length_cons] at hlx
      refine ⟨RowInv K H a rn tn f (((trees ks ++ (.inl (Fo.minus n) :: ts)).map tdOut).flatten.length), fun σ' H' w => ⟨_, ?_, w⟩, ?_⟩
      · rw [List.map_cons, hout, List.length_cons]; exact Nat.lt_succ_self _
      · unfold t_row_of_b1
        walk_at "rd"
        have hl : ((V.ref t :: vs).reverse)[((V.ref t :: vs).reverse).length - 1]? = some (.ref t) := by simp
        refine ⟨.inl ⟨rfl, _, SqL.of ht4⟩, tn, _, _, rfl, rfl, ht4, hl, ?_⟩
        rw [List.reverse_cons, List.dropLast_concat]
        generalize hG : upd H4 tn _ = H5
        obtain ⟨k5, e5⟩ := gen_chg hG
        clear hG
        have t45 : Tk K H4 H5 := Tk.but (.inl ⟨_, ht4⟩) k5
        walk_at "rd"
        refine o_isiN (sqt_noStr (t45 _ _ at_)) ?_
        walk_at "rd"
        simp only [Bool.false_eq_true, if_false]
        have hr5 := k5 _ _ hr4 rntn
        have hn100 : n.length ≤ 100 := hok _ (List.mem_cons_self ..) n (List.mem_cons_self ..)
        have l1 : (("+" : Str)).length = 1 := by decide +kernel
        have l2 : (("-" : Str)).length = 1 := by decide +kernel
        refine ⟨t, _, rfl, t45 _ _ at_, rfl, _, _, rfl, _, _, rfl, rfl, ?_⟩
        refine ⟨.inl ⟨rfl, _, SqL.of hr5⟩, joined_two (n := n) rfl (by omega) hn100 ?_⟩
        refine ⟨rn, _, _, rfl, rfl, hr5, by rw [List.length_map]; omega, ?_⟩
        generalize hG : upd H5 rn _ = H6
        obtain ⟨k6, e6⟩ := gen_chg hG
        clear hG
        have ht6 := k6 _ _ e5 rntn.symm
        refine ⟨.inl ⟨rfl, _, SqL.of ht6⟩, joined_two (n := n) rfl (by omega) hn100 ?_⟩
        have hlt : ts.length + ks.tops.length + 1 ≤ ((trees ks ++ (.inl (Fo.minus n) :: ts)).map tdOut).flatten.length := by
          refine Nat.le_trans (Nat.le_of_eq ?_) (td_le _)
          rw [List.length_append, List.length_cons, trees_len]; omega
        refine ⟨tn, _, _, rfl, rfl, ht6, by rw [List.length_reverse, td.len]; omega, ?_⟩
        generalize hG : upd H6 tn _ = H7
        obtain ⟨k7, e7⟩ := gen_chg hG
        clear hG
        have t57 : Tk K H5 H7 := (Tk.but (.inl ⟨_, hr5⟩) k6).trans (Tk.but (.inl ⟨_, ht6⟩) k7)
        have t47 := t45.trans t57
        refine ⟨.inl ⟨rfl, _, SqL.of e7⟩, ?_⟩
        rw [o_revT]
        walk_at "rd"
        refine ⟨k, _, rfl, t47 _ _ ak, fun p8 hp8 => ?_⟩
        generalize hG : upd H7 p8 _ = H8
        obtain ⟨k8, e8⟩ := gen_new hp8 hG
        clear hG
        refine ⟨tn, p8, _, _, rfl, rfl, k8 _ _ e7, SqT.of e8, ?_, ?_⟩
        · rw [List.length_append, List.length_reverse, List.length_reverse, List.length_singleton, td.len, rk.len]; omega
        generalize hG : upd H8 tn _ = H9
        obtain ⟨k9, e9⟩ := gen_chg hG
        clear hG
        have t79 : Tk K H7 H9 := (Tk.kp k8).trans (Tk.but (.inl ⟨_, k8 _ _ e7⟩) k9)
        have t49 := t47.trans t79
        refine ⟨xs ++ [Fo.plus n], kvs ++ (V.str (Fo.minus n) :: vs), trees ks ++ (.inl (Fo.minus n) :: ts), _, _, _, ?_, ?_, ?_, TdAt.of (rk.mono t49) (.str (td.mono t49)), ?_, ?_, rfl, rfl⟩
        · exact fun b o e => k9 _ _ (k8 _ _ (k7 _ _ (k6 _ _ (k5 _ _ (k4 _ _ e) (ne_of_none e tnH)) (ne_of_none e rnH)) (ne_of_none e tnH))) (ne_of_none e tnH)
        · rw [k9 _ _ (k8 _ _ (k7 _ _ e6 rntn)) rntn]; simp [Fo.plus]
        · rw [e9]; simp [Fo.minus]
        · rw [List.append_assoc]; exact hrow
        · intro t' ht'
          rcases List.mem_append.mp ht' with h | h
          · refine trees_ok (fun m hm => ?_) t' h
            exact hok _ (List.mem_cons_self ..) m (List.mem_cons_of_mem _ (List.mem_append_left _ hm))
          · rcases List.mem_cons.mp h with h | h
            · subst h
              show (("-" : Str) ++ n).length ≤ 200
              rw [len_tl, tl_app, List.length_append, ← len_tl, ← len_tl]; omega
            · exact hok t' (List.mem_cons_of_mem _ h)
where
  trees_len : ∀ {f : Fo}, (trees f).length = f.tops.length
    | .nil => rfl
    | .cons n ks r => by show (trees r).length + 1 = r.tops.length + 1; rw [trees_len]
end
end Tw
set_option Elab.async false
set_option linter.all false
set_option maxRecDepth 100000
set_option maxHeartbeats 4000000
/-! equal woods, equal rows; what a law promises -/
namespace Tw
open PySem PySem.Spec PyProof.Rows L2 TL
def sp_law (K : PySem.W.Frag) : Sp := fun vs H Q _ => ∃ (a : Addr) (ns : List Int), vs = [.ref a] ∧ ns.length ≤ 63 ∧ SqL K H a (ns.map V.int) ∧ ∀ H', Q (.bl true) H'
theorem len_law {K : PySem.W.Frag} (vs : List V) (H : Hp) (Q : VK) (E : XK) (h : sp_law K vs H Q E) : vs.length = 1 := by
  obtain ⟨_, _, rfl, _⟩ := h; rfl
theorem data_lay : ∀ f : Fo, (∀ z ∈ f.nm, IsName z) → PyData.canLayAll0 f.data = true
  | .nil, _ => by simp [Fo.data, PyData.canLayAll0]
  | .cons n ks r, h => by
    have h1 := strOk_of (h n (List.mem_cons_self ..))
    have h2 := data_lay ks fun z hz => h z (List.mem_cons_of_mem _ (List.mem_append_left _ hz))
    have h3 := data_lay r fun z hz => h z (List.mem_cons_of_mem _ (List.mem_append_right _ hz))
    simp [Fo.data, PyData.canLayAll0, PyData.canLay0, h1, h2, h3]
theorem data_depth : ∀ f : Fo, PyData.depthAll f.data ≤ 2 * f.dp
  | .nil => by simp [Fo.data, PyData.depthAll]
  | .cons n ks r => by
    have h2 := data_depth ks
    have h3 := data_depth r
    simp only [Fo.data, PyData.depthAll, PyData.depth, Fo.dp]
    omega
theorem strs_lay : ∀ zs : List Str, (∀ z ∈ zs, PyData.strOk z = true) → PyData.canLayAll0 (zs.map PyData.str) = true
  | [], _ => by simp [PyData.canLayAll0]
  | z :: zs, h => by
    have h1 := h z (List.mem_cons_self ..)
    have h2 := strs_lay zs fun y hy => h y (List.mem_cons_of_mem _ hy)
    simp [PyData.canLayAll0, PyData.canLay0, h1, h2]
theorem strs_depth : ∀ zs : List Str, PyData.depthAll (zs.map PyData.str) = 0
  | [] => by simp [PyData.depthAll]
  | z :: zs => by simp [PyData.depthAll, PyData.depth, strs_depth zs]
theorem strs_dp {K : PySem.W.Frag} {H : Hp} : ∀ zs : List Str, DpAll K H (zs.map V.str) (zs.map PyData.str)
  | [] => .nil
  | z :: zs => .cons (.str z) (strs_dp zs)
theorem en_ok {e : En} (h : IsName e.2) : PyData.strOk (en e) = true := by
  unfold PyData.strOk
  rw [← Array.all_toList, List.all_eq_true, en_codes]
  intro c hc
  simp only [decide_eq_true_eq]
  rcases List.mem_cons.mp hc with rfl | hc
  · split <;> decide
  · have := h.let_ c hc; omega
theorem row_ok (f : Fo) (h : ∀ z ∈ f.nm, IsName z) : ∀ z ∈ f.row, PyData.strOk z = true := by
  rw [Fo.row_erow]
  intro z hz
  obtain ⟨e, he, rfl⟩ := List.mem_map.mp hz
  exact en_ok (h _ (erow_nm f e he))
theorem Dk.tk {K : PySem.W.Frag} {a : Addr} {H H' : Hp} (k : Dk a H H') (hd : DeckAt H a) : Tk K H H' := by
  obtain ⟨x, y, z, hd⟩ := hd
  exact Tk.but (.inl ⟨_, hd⟩) k.keep
section
variable {K : PySem.W.Frag} {H : Hp} {Q : VK}
theorem o_eqWood {a b : Addr} {f : Fo} (h1 : WoodAt K H a f) (h2 : WoodAt K H b f) (hn : ∀ z ∈ f.nm, IsName z) (hd : f.dp ≤ 99) (q : Q (.bl true) H) : rEqB K (.ref a) (.ref b) H Q := by
  have hl : PyData.canLay0 (.tuple f.data) = true := by rw [PyData.canLay0]; exact data_lay f hn
  have e := SeqAt.eqv_refl (.tuple f.data) hl
  have := data_depth f
  refine ⟨_, _, h1.dp, h2.dp, hl, hl, ?_, by rw [e]; exact q⟩
  simp only [PyData.depth]; omega
theorem o_eqRow {a b : Addr} {zs : List Str} (h1 : SqT K H a (zs.map V.str)) (h2 : SqT K H b (zs.map V.str)) (hn : ∀ z ∈ zs, PyData.strOk z = true) (q : Q (.bl true) H) : rEqB K (.ref a) (.ref b) H Q := by
  have hl : PyData.canLay0 (.tuple (zs.map PyData.str)) = true := by rw [PyData.canLay0]; exact strs_lay zs hn
  have e := SeqAt.eqv_refl _ hl
  refine ⟨_, _, .tup h1 (strs_dp zs), .tup h2 (strs_dp zs), hl, hl, ?_, by rw [e]; exact q⟩
  simp only [PyData.depth, strs_depth]; omega
theorem o_neRow {a b : Addr} {zs : List Str} (h1 : SqT K H a (zs.map V.str)) (h2 : SqT K H b (zs.map V.str)) (hn : ∀ z ∈ zs, PyData.strOk z = true) (q : Q (.bl false) H) : rNeB K (.ref a) (.ref b) H Q := by
  have hl : PyData.canLay0 (.tuple (zs.map PyData.str)) = true := by rw [PyData.canLay0]; exact strs_lay zs hn
  have e := SeqAt.eqv_refl _ hl
  refine ⟨_, _, .tup h1 (strs_dp zs), .tup h2 (strs_dp zs), hl, hl, ?_, by rw [e]; exact q⟩
  simp only [PyData.depth, strs_depth]; omega
end
end Tw
set_option Elab.async false
set_option linter.all false
set_option maxRecDepth 100000
set_option maxHeartbeats 4000000
/-! who lies in whom -/
namespace Tw
open PySem PySem.Spec PyProof.Rows L2 TL
local macro_rules | `(tactic| walk_at "rd") => `(tactic| try simp only [o_op, o_un, o_var, o_c, o_cb, o_call, o_cons, o_nil, o_tup, o_lst, o_I0, o_I, o_int1, o_intb, o_abs, o_test, o_b, o_not, o_and, o_or, o_andV, o_orV, o_notV, o_ifE, o_isN, o_notN, o_eq, o_ne, o_seq, o_next, o_asg, o_name, o_sub, o_par, o_par3, o_drop, o_ret, o_retN, o_ifS, o_sl, o_noPart, o_part, o_bm, o_bm0, o_m0, o_m1, o_dget, o_dput, o_din, o_dnotin, o_listKeys, e_bl, e_int, e_str, e_some, e_two, e_three, o_for, o_lc, o_iList, o_iTup, o_iRng1, e_int1, e_ref, o_yes, o_wipe0, o_wipe1, o_disp, o_dnew, o_pairs0, o_pairs1, o_lock, o_keysM, o_gtup, o_gcons, o_gnil, o_rU, o_tru, o_revT, o_enumT, o_from, true_and, if_pos, List.getElem?_cons_zero, List.getElem?_cons_succ, List.set_cons_zero, List.set_cons_succ, List.append_nil])
/-- each name with the name it lies in -/
def pars : Fo → V → List (Str × V)
  | .nil, _ => []
  | .cons n ks r, t => (n, t) :: (pars ks (.str n) ++ pars r t)
theorem pars_nm : ∀ (f : Fo) (t : V), (pars f t).map (·.1) = f.nm
  | .nil, _ => rfl
  | .cons n ks r, t => by simp only [pars, List.map_cons, List.map_append, pars_nm ks, pars_nm r]; rfl
/-- the same, from the ends that come and the names that are open, the innermost first -/
def rpar : List En → List V → List (Str × V)
  | [], _ => []
  | (true, n) :: es, st => (n, st.headD .non) :: rpar es (.str n :: st)
  | (false, _) :: es, st => rpar es st.tail
theorem rpar_app : ∀ (f : Fo) (es : List En) (t : V) (st : List V), rpar (f.erow ++ es) (t :: st) = pars f t ++ rpar es (t :: st)
  | .nil, _, _, _ => rfl
  | .cons n ks r, es, t, st => by
    show rpar ((true, n) :: ((ks.erow ++ (false, n) :: r.erow) ++ es)) (t :: st) = _
    rw [List.append_assoc]
    show (n, t) :: rpar (ks.erow ++ ((false, n) :: (r.erow ++ es))) (.str n :: t :: st) = _
    rw [rpar_app ks]
    show (n, t) :: (pars ks (.str n) ++ rpar (r.erow ++ es) (t :: st)) = _
    rw [rpar_app r]
    simp [pars]
/-- these ends close what is open -/
def Bal : List En → Nat → Prop
  | [], _ => True
  | (true, _) :: es, k => Bal es (k + 1)
  | (false, _) :: es, k => ∃ j, k = j + 1 ∧ Bal es j
theorem bal_app : ∀ (f : Fo) (es : List En) (k : Nat), Bal es k → Bal (f.erow ++ es) k
  | .nil, _, _, h => h
  | .cons n ks r, es, k, h => by
    show Bal ((true, n) :: ((ks.erow ++ (false, n) :: r.erow) ++ es)) k
    rw [List.append_assoc]
    exact bal_app ks ((false, n) :: (r.erow ++ es)) (k + 1) ⟨k, rfl, bal_app r es k h⟩
theorem bal_row (f : Fo) : Bal f.erow 0 := by
  have := bal_app f [] 0 trivial
  rwa [List.append_nil] at this
abbrev pk (ps : List (Str × V)) : List (Key × V) := ps.map fun p => ((Sum.inr p.1 : Key), p.2)
theorem valV_pk (n : Str) : ∀ ps : List (Str × V), valV (pk ps) (Sum.inr n) = (ps.find? fun p => p.1 = n).map (·.2)
  | [] => rfl
  | p :: ps => by
    by_cases e : p.1 = n
    · rw [show pk (p :: ps) = ((Sum.inr p.1 : Key), p.2) :: pk ps from rfl, valV_pos (by rw [e])]
      simp [List.find?_cons, e]
    · rw [show pk (p :: ps) = ((Sum.inr p.1 : Key), p.2) :: pk ps from rfl, valV_neg (fun z => e (Sum.inr.inj z)), valV_pk n ps]
      simp [List.find?_cons, e]
theorem pk_none {n : Str} {ps : List (Str × V)} (h : n ∉ ps.map (·.1)) : valV (pk ps) (Sum.inr n) = none := by
  rw [valV_pk, Option.map_eq_none_iff, List.find?_eq_none]
  intro p hp
  simp only [decide_eq_true_eq]
  exact fun e => h (e ▸ List.mem_map_of_mem hp)
theorem pk_some {n : Str} {v : V} : ∀ {ps : List (Str × V)}, (ps.map (·.1)).Nodup → (n, v) ∈ ps → valV (pk ps) (Sum.inr n) = some v
  | p :: ps, nd, h => by
    rw [show pk (p :: ps) = ((Sum.inr p.1 : Key), p.2) :: pk ps from rfl]
    rw [List.map_cons, List.nodup_cons] at nd
    rcases List.mem_cons.mp h with h | h
    · subst h; exact valV_pos rfl
    · have : ¬ p.1 = n := fun e => nd.1 (e ▸ List.mem_map_of_mem (f := (·.1)) h)
      rw [valV_neg (fun z => this (Sum.inr.inj z))]
      exact pk_some nd.2 h
def sp_parents_of (K : PySem.W.Frag) : Sp := fun vs H Q _ => ∃ a f, vs = [.ref a] ∧ WoodAt K H a f ∧ NameOk f ∧ ∀ p H', Kp H H' → H p = none → H' p = some (.dK (pk (pars f .non))) → Q (.ref p) H'
def sp_names_of (K : PySem.W.Frag) : Sp := fun vs H Q _ => ∃ a f, vs = [.ref a] ∧ WoodAt K H a f ∧ NameOk f ∧ ∀ p H', Kp H H' → SqT K H' p (f.nm.map V.str) → Q (.ref p) H'
def sp_u_check_there (K : PySem.W.Frag) : Sp := fun vs H Q _ => ∃ (d tp : Addr) (ps : List (Str × V)) (zs : List Str), vs = [.ref d, .ref tp] ∧ H d = some (.dK (pk ps)) ∧ SqT K H tp (zs.map V.str) ∧ (∀ z ∈ zs, z ∈ ps.map (·.1)) ∧ Q .non H
def sp_parent_of (K : PySem.W.Frag) : Sp := fun vs H Q _ => ∃ a f n v, vs = [.ref a, .str n] ∧ WoodAt K H a f ∧ NameOk f ∧ (n, v) ∈ pars f .non ∧ ∀ H', Kp H H' → Q v H'
/-- the names that lie right in v -/
def filt (ps : List (Str × V)) (v : V) : List Str := (ps.filter fun p => p.2 = v).map (·.1)
def sp_children_of (K : PySem.W.Frag) : Sp := fun vs H Q _ => ∃ a f v, vs = [.ref a, v] ∧ WoodAt K H a f ∧ NameOk f ∧ (v = .non ∨ ∃ n, n ∈ f.nm ∧ v = .str n) ∧ ∀ p H', Kp H H' → SqT K H' p ((filt (pars f .non) v).map V.str) → Q (.ref p) H'
def t_parents_of_b1 (K : PySem.W.Frag) : TS :=
  (tIfS (tTest (tOp rEq (tOp rIxS (tVar 3) (tC (.int 0))) (tC (.str "+")))) (tSeq (sDPut (tVar 1) (L2.tSl rSlS (tVar 3) (tPart (tC (.int 1))) tNoPart) (tOp (rIxL K) (tVar 2) (tUn (rU fun i => .int (-i)) (tC (.int 1)))))
  (tDrop (tBM K "list" rAppend (tVar 2) (tCons (L2.tSl rSlS (tVar 3) (tPart (tC (.int 1))) tNoPart) tNil)))) (tDrop (tBM0 K "list" rPop (tVar 2))))
def t_parents_of (K : PySem.W.Frag) : TS :=
  (tSeq (tAsg tDNewK (gName 1))
  (tSeq (tAsg (tLst (tCons (tC .non) tNil)) (gName 2))
  (tSeq (tFor (iTup K (tCall (sp_row_of K) [] E0 (tCons (tVar 0) tNil))) (gName 3)
  (t_parents_of_b1 K))
  (tRet (tVar 1)))))
def t_names_of (K : PySem.W.Frag) : TS :=
  (tRet (tCB (rTupleOf K) (tCons (tLc (iTup K (tCall (sp_row_of K) [] E0 (tCons (tVar 0) tNil))) (gName 1) (tTest (tOp rEq (tOp rIxS (tVar 1) (tC (.int 0))) (tC (.str "+")))) (L2.tSl rSlS (tVar 1) (tPart (tC (.int 1))) tNoPart) [1]) tNil)))
def t_parent_of (K : PySem.W.Frag) : TS :=
  (tSeq (tAsg (tCall (sp_parents_of K) [] E0 (tCons (tVar 0) tNil)) (gName 2))
  (tSeq (tDrop (tCall (sp_u_check_there K) [] E0 (tCons (tVar 2) (tCons (tTup (tCons (tVar 1) tNil)) tNil))))
  (tRet (tDGet (tVar 2) (tVar 1)))))
def t_children_of_r1 (K : PySem.W.Frag) : TS :=
  (tRet (tCB (rTupleOf K) (tCons (tLockE (tLc (iKeys (tVar 2)) (gName 3) (tTest (tOp (rEqB K) (tDGet (tVar 2) (tVar 3)) (tVar 1))) (tVar 3) [3])) tNil)))
def t_children_of (K : PySem.W.Frag) : TS :=
  (tSeq (tAsg (tCall (sp_parents_of K) [] E0 (tCons (tVar 0) tNil)) (gName 2))
  (C8.tCut (tIfS (tB (tNotN (tVar 1))) (tDrop (tCall (sp_u_check_there K) [] E0 (tCons (tVar 2) (tCons (tTup (tCons (tVar 1) tNil)) tNil)))) tNext)
  (t_children_of_r1 K)))
def t_u_check_there_b1 (K : PySem.W.Frag) : TS :=
  (tIfS (tOr (tNot (tB (tIsi K "str" (tVar 2)))) (tB (tDNotIn (tVar 2) (tVar 0)))) tNever tNext)
def t_u_check_there (K : PySem.W.Frag) : TS :=
  (tFor (iTup K (tVar 1)) (gName 2)
  (t_u_check_there_b1 K))
section
variable {K : PySem.W.Frag}
theorem len_parents_of (vs : List V) (H : Hp) (Q : VK) (E : XK) (h : sp_parents_of K vs H Q E) : vs.length = 1 := by
  obtain ⟨_, _, rfl, _⟩ := h; rfl
theorem len_names_of (vs : List V) (H : Hp) (Q : VK) (E : XK) (h : sp_names_of K vs H Q E) : vs.length = 1 := by
  obtain ⟨_, _, rfl, _⟩ := h; rfl
theorem len_u_check_there (vs : List V) (H : Hp) (Q : VK) (E : XK) (h : sp_u_check_there K vs H Q E) : vs.length = 2 := by
  obtain ⟨_, _, _, _, rfl, _⟩ := h; rfl
theorem len_parent_of (vs : List V) (H : Hp) (Q : VK) (E : XK) (h : sp_parent_of K vs H Q E) : vs.length = 2 := by
  obtain ⟨_, _, _, _, rfl, _⟩ := h; rfl
theorem len_children_of (vs : List V) (H : Hp) (Q : VK) (E : XK) (h : sp_children_of K vs H Q E) : vs.length = 2 := by
  obtain ⟨_, _, _, rfl, _⟩ := h; rfl
theorem NameOk.short {f : Fo} (h : NameOk f) : ∀ z ∈ f.nm, z.length ≤ 100 := fun z hz => by have := (h.nms z hz).eight; omega
theorem at_last (xs : List V) (x : V) : atI (xs ++ [x]) (-1) = some x := by
  have e : ixN (xs ++ [x]).length (-1) = some xs.length := by
    unfold ixN
    simp only [List.length_append, List.length_singleton]
    rw [if_neg (by decide)]
    simp
    omega
  unfold atI
  rw [e]; simp
theorem pure_parents_of (vs : List V) (H : Hp) (Q : VK) (E : XK) (h : sp_parents_of K vs H Q E) : t_parents_of K { nx := fun _ H' => Q .non H', rt := Q } (startN 4 vs) H := by
  obtain ⟨a, f, rfl, ha, hf, q⟩ := h
  show t_parents_of K _ [some (.ref a), none, none, none] H
  unfold t_parents_of
  have hz := sizeLine_eq
  have hsz := hf.sz
  walk_at "rd"
  intro pd hpd
  generalize hG : upd H pd _ = H1
  obtain ⟨k1, e1⟩ := gen_new hpd hG
  clear hG
  refine ⟨by show 1 ≤ sizeLine; omega, fun an han => ?_⟩
  generalize hG : upd H1 an _ = H2
  obtain ⟨k2, e2⟩ := gen_new han hG
  clear hG
  have k02 : Kp H H2 := fun b o e => k2 _ _ (k1 _ _ e)
  have pdan : pd ≠ an := ne_of_none e1 han
  have anH : H an = none := Kp.free k1 han
  refine ⟨a, f, rfl, ha.mono (Tk.kp k02), hsz, hf.short, fun rp H3 k3 hr => ?_⟩
  walk_at "rd"
  refine ⟨⟨_, hr⟩, ?_⟩
  have hlen : f.erow.length = 2 * f.nm.length := by rw [← row_len f, Fo.row_erow, List.length_map]
  rw [Fo.row_erow, List.map_map] at hr
  refine fb_tup (xs := f.erow.map (V.str ∘ en)) (fun i σ H4 => ∃ dn st x, Kp H H4 ∧ Tk K H3 H4 ∧ H4 pd = some (.dK (pk dn)) ∧ H4 an = some (.lst st.reverse) ∧ dn ++ rpar (f.erow.drop i) st = pars f .non ∧ (∃ k, st.length = k + 1 ∧ Bal (f.erow.drop i) k) ∧ dn.length ≤ i ∧ st.length ≤ i + 1 ∧ i ≤ f.erow.length ∧
    σ = [some (.ref a), some (.ref pd), some (.ref an), x]) ?_ ?_ ?_ ?_
  · refine ⟨[], [.non], _, fun b o e => k3 _ _ (k02 _ _ e), Tk.refl, k3 _ _ (k2 _ _ e1), k3 _ _ e2, ?_, ⟨0, rfl, bal_row f⟩, Nat.le_refl _, Nat.le_refl _, Nat.zero_le _, rfl⟩
    have := rpar_app f [] .non []
    rw [List.append_nil] at this
    rw [List.nil_append, List.drop_zero, this]
    simp [rpar]
  · rintro i σ H4 _ ⟨dn, st, x, k4, t4, _⟩
    exact t4 _ _ hr
  · rintro i v σ H4 hx ⟨dn, st, x, k4, t4, hd4, ha4, hpar, ⟨k, hk, hbal⟩, hdl, hsl, hi, rfl⟩
    rw [List.getElem?_map, Option.map_eq_some_iff] at hx
    obtain ⟨e, he, rfl⟩ := hx
    rw [drop_at he] at hpar hbal
    have hi2 := (List.getElem?_eq_some_iff.mp he).1
    have hie : IsName e.2 := hf.nms _ (erow_nm f e (List.mem_of_getElem? he))
    have h8 := hie.eight
    unfold t_parents_of_b1
    walk_at "rd"
    refine o_ixS (by rw [en_len]; omega) (en_at0 e) ⟨rfl, ?_⟩
    obtain ⟨t, st', rfl⟩ : ∃ t st', st = t :: st' := by
      cases st with
      | nil => simp at hk
      | cons t st' => exact ⟨t, st', rfl⟩
    obtain ⟨b, n⟩ := e
    cases b with
    | true =>
      refine ite2 (fun _ => ?_) fun h => absurd (by simpa using p43) h
      walk_at "rd"
      rw [List.reverse_cons] at ha4
      refine ⟨an, _, _, _, rfl, rfl, SqL.of ha4, at_last _ t, ?_⟩
      refine ⟨en (true, n), rfl, by rw [en_len]; omega, ?_⟩
      rw [en_cut1]
      have hnn : n ∉ dn.map (·.1) := by
        have h1 : (dn ++ rpar ((true, n) :: f.erow.drop (i + 1)) (t :: st')).map (·.1) = f.nm := by rw [hpar, pars_nm]
        have h2 := hf.nd
        rw [← h1, List.map_append] at h2
        intro hm
        exact (List.nodup_append.mp h2).2.2 n hm n (List.mem_cons_self ..) rfl
      refine ⟨pd, _, rfl, DPut.k (k := (Sum.inr n : Key)) hd4 (by rw [List.length_map]; omega), ?_⟩
      rw [putK_new _ (pk_none hnn)]
      generalize hG : upd H4 pd _ = H5
      obtain ⟨k5, e5⟩ := gen_chg hG
      clear hG
      have ha5 := k5 _ _ ha4 pdan.symm
      refine ⟨.inl ⟨rfl, _, SqL.of ha5⟩, en (true, n), rfl, by rw [en_len]; omega, ?_⟩
      rw [en_cut1]
      refine ⟨an, _, _, rfl, rfl, ha5, by simp only [List.length_cons, List.length_append, List.length_reverse, List.length_nil] at hsl ⊢; omega, ?_⟩
      generalize hG : upd H5 an _ = H6
      obtain ⟨k6, e6⟩ := gen_chg hG
      clear hG
      refine ⟨dn ++ [(n, t)], .str n :: t :: st', _, fun b o e => k6 _ _ (k5 _ _ (k4 _ _ e) (ne_of_none e hpd)) (ne_of_none e anH), (t4.trans (Tk.but (.inr (.inl ⟨_, hd4⟩)) k5)).trans (Tk.but (.inl ⟨_, ha5⟩) k6), ?_, by rw [e6]; simp, ?_, ⟨k + 1, by simp only [List.length_cons] at hk ⊢; omega, hbal⟩, by rw [List.length_append, List.length_singleton]; omega, by simp only [List.length_cons] at hsl ⊢; omega, by omega, rfl⟩
      · rw [k6 _ _ e5 pdan]; simp
      · rw [List.append_assoc]; exact hpar
    | false =>
      obtain ⟨j, rfl, hbal⟩ := hbal
      refine ite2 (fun h => absurd (by simpa using h) p45) fun _ => ?_
      walk_at "rd"
      rw [List.reverse_cons] at ha4
      refine ⟨.inl ⟨rfl, _, SqL.of ha4⟩, an, _, t, rfl, rfl, ha4, by simp, ?_⟩
      rw [List.dropLast_concat]
      generalize hG : upd H4 an _ = H5
      obtain ⟨k5, e5⟩ := gen_chg hG
      clear hG
      exact ⟨dn, st', _, fun b o e => k5 _ _ (k4 _ _ e) (ne_of_none e anH), t4.trans (Tk.but (.inl ⟨_, ha4⟩) k5), k5 _ _ hd4 pdan, e5, hpar, ⟨j, by simp only [List.length_cons] at hk; omega, hbal⟩, by omega, by simp only [List.length_cons] at hsl; omega, by omega, rfl⟩
  · rintro σ H4 ⟨dn, st, x, k4, t4, hd4, ha4, hpar, _, _, _, _, rfl⟩
    rw [List.length_map, List.drop_length] at hpar
    walk_at "rd"
    have e : dn = pars f .non := by simpa [rpar] using hpar
    exact q pd H4 k4 hpd (by rw [← e]; exact hd4)
theorem pure_u_check_there (vs : List V) (H : Hp) (Q : VK) (E : XK) (h : sp_u_check_there K vs H Q E) : t_u_check_there K { nx := fun _ H' => Q .non H', rt := Q } (startN 3 vs) H := by
  obtain ⟨d, tp, ps, zs, rfl, hd, ht, hin, q⟩ := h
  show t_u_check_there K _ [some (.ref d), some (.ref tp), none] H
  unfold t_u_check_there
  walk_at "rd"
  refine ⟨⟨_, ht⟩, ?_⟩
  refine fb_tup (xs := zs.map V.str) (fun i σ H2 => H2 = H ∧ ∃ x, σ = [some (.ref d), some (.ref tp), x]) ⟨rfl, _, rfl⟩ ?_ ?_ ?_
  · rintro i σ H2 _ ⟨rfl, _⟩; exact ht
  · rintro i v σ H2 hx ⟨rfl, x, rfl⟩
    rw [List.getElem?_map, Option.map_eq_some_iff] at hx
    obtain ⟨z, hz, rfl⟩ := hx
    have hm := hin z (List.mem_of_getElem? hz)
    unfold t_u_check_there_b1
    walk_at "rd"
    refine o_isiS ?_
    walk_at "rd"
    simp only [Bool.not_true, Bool.false_eq_true, if_false]
    refine ⟨d, _, rfl, DGet.k (k := (Sum.inr z : Key)) hd, ?_⟩
    obtain ⟨p, hp, e⟩ := List.mem_map.mp hm
    have : (valV (pk ps) (Sum.inr z)).isSome = true := by
      rw [valV_pk, Option.isSome_map, List.find?_isSome]
      exact ⟨p, hp, by simpa using e⟩
    rw [this]
    walk_at "rd"
    exact ⟨_, rfl⟩
  · rintro σ H2 ⟨rfl, _⟩; exact q
theorem pure_parent_of (vs : List V) (H : Hp) (Q : VK) (E : XK) (h : sp_parent_of K vs H Q E) : t_parent_of K { nx := fun _ H' => Q .non H', rt := Q } (startN 3 vs) H := by
  obtain ⟨a, f, n, v, rfl, ha, hf, hn, q⟩ := h
  show t_parent_of K _ [some (.ref a), some (.str n), none] H
  unfold t_parent_of
  walk_at "rd"
  refine ⟨a, f, rfl, ha, hf, fun d H1 k1 _ hd => ?_⟩
  walk_at "rd"
  refine ⟨by show 1 ≤ sizeLine; decide, fun p hp => ?_⟩
  generalize hG : upd H1 p _ = H2
  obtain ⟨k2, e2⟩ := gen_new hp hG
  clear hG
  have hd2 := k2 _ _ hd
  refine ⟨d, p, _, [n], rfl, hd2, SqT.of e2, fun z hz => ?_, ?_⟩
  · rw [List.mem_singleton.mp hz]; exact List.mem_map_of_mem (f := (·.1)) hn
  · have hg := DGet.k (k := (Sum.inr n : Key)) hd2
    rw [pk_some (by rw [pars_nm]; exact hf.nd) hn] at hg
    exact ⟨d, _, rfl, hg, q H2 fun b o e => k2 _ _ (k1 _ _ e)⟩
theorem pls_take {es : List En} {i : Nat} {e : En} (h : es[i]? = some e) : pls (es.take (i + 1)) = pls (es.take i) ++ (if e.1 then [e.2] else []) := by
  rw [List.take_add_one, h, pls_app]
  congr 1
  obtain ⟨b, n⟩ := e
  cases b <;> rfl
theorem pls_le (es : List En) : (pls es).length ≤ es.length := by
  unfold pls
  rw [List.length_map]
  exact List.length_filter_le _ _
theorem pure_names_of (vs : List V) (H : Hp) (Q : VK) (E : XK) (h : sp_names_of K vs H Q E) : t_names_of K { nx := fun _ H' => Q .non H', rt := Q } (startN 2 vs) H := by
  obtain ⟨a, f, rfl, ha, hf, q⟩ := h
  show t_names_of K _ [some (.ref a), none] H
  unfold t_names_of
  have hz := sizeLine_eq
  have hsz := hf.sz
  walk_at "rd"
  refine ⟨a, f, rfl, ha, hsz, hf.short, fun p H1 k1 hr => ?_⟩
  walk_at "rd"
  refine ⟨⟨_, hr⟩, ?_⟩
  have hlen : f.erow.length = 2 * f.nm.length := by rw [← row_len f, Fo.row_erow, List.length_map]
  rw [Fo.row_erow, List.map_map] at hr
  refine lb_walk (n := (f.erow.map (V.str ∘ en)).length) walk_tup (fun D i H2 => H1 D = none ∧ Kp H1 H2 ∧ H2 D = some (.lst ((pls (f.erow.take i)).map V.str))) ?_ ?_ ?_ ?_
  · intro D hD
    exact ⟨hD, (show Kp H1 H1 from fun _ _ h => h).new hD, upd_same⟩
  · rintro D i H2 hi ⟨hD, k2, _⟩
    exact Tk.kp k2 _ _ hr
  · rintro D i x H2 H3 hi ⟨hD, k2, h2⟩ ⟨rfl, hx⟩
    rw [List.getElem?_map, Option.map_eq_some_iff] at hx
    obtain ⟨e, he, rfl⟩ := hx
    have hi2 := (List.getElem?_eq_some_iff.mp he).1
    have hie : IsName e.2 := hf.nms _ (erow_nm f e (List.mem_of_getElem? he))
    have h8 := hie.eight
    have hle : (pls (f.erow.take i)).length ≤ 2000 := by have := pls_le (f.erow.take i); rw [List.length_take] at this; omega
    show gName 1 (.str (en e)) _ _ _
    walk_at "rd"
    refine o_ixS (by rw [en_len]; omega) (en_at0 e) ⟨rfl, ?_⟩
    rw [pls_take he]
    obtain ⟨b, n⟩ := e
    cases b with
    | true =>
      refine ite2 (fun _ => ?_) fun h => absurd (by simpa using p43) h
      refine ⟨en (true, n), rfl, by rw [en_len]; omega, ?_⟩
      rw [en_cut1]
      refine ⟨_, h2, by rw [List.length_map]; omega, hD, fun b o e => ?_, by rw [upd_same]; simp⟩
      rw [upd_ne (ne_of_none e hD)]; exact k2 _ _ e
    | false =>
      refine ite2 (fun h => absurd (by simpa using h) p45) fun _ => ?_
      exact ⟨hD, k2, by simpa using h2⟩
  · rintro D H2 hD ⟨_, k2, h2⟩
    rw [List.length_map, List.take_length, pls_row] at h2
    refine ⟨D, _, rfl, .inl ⟨SqL.of h2, fun p hp => ?_⟩⟩
    generalize hG : upd H2 p _ = H3
    obtain ⟨k3, e3⟩ := gen_new hp hG
    clear hG
    exact q p H3 (fun b o e => k3 _ _ (k2 _ _ (k1 _ _ e))) (SqT.of e3)
theorem o_keysD {td : TE} {σ : L2.St} {H : Hp} {R : It → Hp → Prop} : iKeys td σ H R = td σ H fun x H1 => ∃ d o, x = .ref d ∧ ((∃ kvs, H1 d = some (.frz o (.dK kvs)) ∧ R (Itk d o kvs) H1) ∨ ∃ kvs, H1 d = some (.frz o (.dT kvs)) ∧ R (Itkt d o kvs) H1) := rfl
theorem o_lockE {t : TE} {σ : L2.St} {H : Hp} {Q : VK} : tLockE t σ H Q = ∃ d u, H d = some u ∧ Mut (some u) ∧ ∀ od, t σ (upd H d (.frz od u)) fun v H' => H' d = some (.frz od u) ∧ Q v (upd H' d u) := rfl
/-- none or a text -/
def NS (v : V) : Prop := v = .non ∨ ∃ n, IsName n ∧ v = .str n
theorem pars_ns : ∀ {f : Fo} {t : V}, NS t → (∀ z ∈ f.nm, IsName z) → ∀ p ∈ pars f t, NS p.2
  | .cons n ks r, t, ht, h, p, hp => by
    have hn := h n (List.mem_cons_self ..)
    rcases List.mem_cons.mp hp with e | hp
    · rw [e]; exact ht
    · rcases List.mem_append.mp hp with hp | hp
      · exact pars_ns (.inr ⟨n, hn, rfl⟩) (fun z hz => h z (List.mem_cons_of_mem _ (List.mem_append_left _ hz))) p hp
      · exact pars_ns ht (fun z hz => h z (List.mem_cons_of_mem _ (List.mem_append_right _ hz))) p hp
theorem eqv_str (n m : Str) : PyData.eqv (.str n) (.str m) = decide (V.str n = V.str m) := by
  by_cases h : n = m
  · subst h; simp [PyData.eqv]
  · have h2 : ¬ V.str n = V.str m := fun e => h (V.str.inj e)
    simp [PyData.eqv, h]
theorem ns_eq {x y : V} {H : Hp} {Q : VK} (hx : NS x) (hy : NS y) (q : Q (.bl (decide (x = y))) H) : rEqB K x y H Q := by
  rcases hx with rfl | ⟨n, hn, rfl⟩ <;> rcases hy with rfl | ⟨m, hm, rfl⟩
  · exact ⟨_, _, .non, .non, rfl, rfl, by simp [PyData.depth], by simpa [PyData.eqv] using q⟩
  · exact ⟨_, _, .non, .str m, rfl, strOk_of hm, by simp [PyData.depth], by simpa [PyData.eqv] using q⟩
  · exact ⟨_, _, .str n, .non, strOk_of hn, rfl, by simp [PyData.depth], by simpa [PyData.eqv] using q⟩
  · exact ⟨_, _, .str n, .str m, strOk_of hn, strOk_of hm, by simp [PyData.depth], by rw [eqv_str]; exact q⟩
theorem ns_ne {x y : V} {H : Hp} {Q : VK} (hx : NS x) (hy : NS y) (q : Q (.bl (!decide (x = y))) H) : rNeB K x y H Q := by
  rcases hx with rfl | ⟨n, hn, rfl⟩ <;> rcases hy with rfl | ⟨m, hm, rfl⟩
  · exact ⟨_, _, .non, .non, rfl, rfl, by simp [PyData.depth], by simpa [PyData.eqv] using q⟩
  · exact ⟨_, _, .non, .str m, rfl, strOk_of hm, by simp [PyData.depth], by simpa [PyData.eqv] using q⟩
  · exact ⟨_, _, .str n, .non, strOk_of hn, rfl, by simp [PyData.depth], by simpa [PyData.eqv] using q⟩
  · exact ⟨_, _, .str n, .str m, strOk_of hn, strOk_of hm, by simp [PyData.depth], by rw [eqv_str]; exact q⟩
theorem filt_take {ps : List (Str × V)} {i : Nat} {p : Str × V} {v : V} (h : ps[i]? = some p) : filt (ps.take (i + 1)) v = filt (ps.take i) v ++ (if decide (p.2 = v) then [p.1] else []) := by
  unfold filt
  rw [List.take_add_one, h, List.filter_append, List.map_append]
  congr 1
  by_cases e : p.2 = v
  · simp [e]
  · simp [e]
theorem filt_le (ps : List (Str × V)) (v : V) : (filt ps v).length ≤ ps.length := by
  unfold filt
  rw [List.length_map]
  exact List.length_filter_le _ _
theorem pure_children_of (vs : List V) (H : Hp) (Q : VK) (E : XK) (h : sp_children_of K vs H Q E) : t_children_of K { nx := fun _ H' => Q .non H', rt := Q } (startN 4 vs) H := by
  obtain ⟨a, f, v, rfl, ha, hf, hv, q⟩ := h
  show t_children_of K _ [some (.ref a), some v, none, none] H
  unfold t_children_of
  have hz := sizeLine_eq
  have hsz := hf.sz
  have hvn : NS v := by
    rcases hv with e | ⟨n, hn, e⟩
    · exact .inl e
    · exact .inr ⟨n, hf.nms n hn, e⟩
  walk_at "rd"
  refine ⟨a, f, rfl, ha, hf, fun d H1 k1 hdn hd => ?_⟩
  walk_at "rd"
  refine ⟨fun σ H2 => Kp H1 H2 ∧ σ = [some (.ref a), some v, some (.ref d), none], ?_, ?_⟩
  · walk_at "rd"
    rcases hv with rfl | ⟨n, hn, rfl⟩
    · simp only [decide_true, Bool.not_true, Bool.false_eq_true, if_false]
      exact ⟨fun _ _ e => e, trivial⟩
    · have e : (!decide (V.str n = V.non)) = true := by simp
      rw [e, if_pos rfl]
      refine ⟨by show 1 ≤ sizeLine; decide, fun p hp => ?_⟩
      generalize hG : upd H1 p _ = H2
      obtain ⟨k2, e2⟩ := gen_new hp hG
      clear hG
      refine ⟨d, p, _, [n], rfl, k2 _ _ hd, SqT.of e2, fun z hz => ?_, k2, trivial⟩
      rw [List.mem_singleton.mp hz, pars_nm]; exact hn
  · rintro σ H2 ⟨k2, rfl⟩
    have hd2 := k2 _ _ hd
    unfold t_children_of_r1
    walk_at "rd"
    rw [o_lockE]
    refine ⟨d, _, hd2, trivial, fun od => ?_⟩
    generalize hG : upd H2 d _ = H3
    obtain ⟨k3, e3⟩ := gen_chg hG
    have hpl : (pars f .non).length = f.nm.length := by rw [← pars_nm f .non, List.length_map]
    walk_at "rd"
    rw [o_keysD]
    walk_at "rd"
    refine ⟨d, od, rfl, .inl ⟨_, e3, ?_⟩⟩
    refine lb_walk walk_keys (fun D i H4 => H3 D = none ∧ Kp H3 H4 ∧ H4 D = some (.lst ((filt ((pars f .non).take i) v).map V.str))) ?_ ?_ ?_ ?_
    · intro D hD
      exact ⟨hD, (show Kp H3 H3 from fun _ _ h => h).new hD, by rw [upd_same]; rfl⟩
    · rintro D i H4 hi ⟨hD, k4, _⟩
      exact k4 _ _ e3
    · rintro D i x H4 H5 hi ⟨hD, k4, h4⟩ ⟨rfl, key, w, hkv, rfl⟩
      rw [List.getElem?_map, Option.map_eq_some_iff] at hkv
      obtain ⟨p, hp, ep⟩ := hkv
      cases ep
      have hi2 := (List.getElem?_eq_some_iff.mp hp).1
      have hm : p ∈ pars f .non := List.mem_of_getElem? hp
      show gName 3 (.str p.1) _ _ _
      walk_at "rd"
      have hg : DGet H5 d (.str p.1) (some p.2) := by
        have h : valV (pk (pars f .non)) (Sum.inr p.1) = some p.2 := pk_some (by rw [pars_nm]; exact hf.nd) hm
        exact .inl ⟨_, Sum.inr p.1, .inr ⟨_, k4 _ _ e3⟩, rfl, h.symm⟩
      refine ⟨d, _, rfl, hg, ?_⟩
      refine ns_eq (pars_ns (.inl rfl) hf.nms p hm) hvn ?_
      walk_at "rd"
      rw [filt_take hp]
      have hle := filt_le ((pars f .non).take i) v
      rw [List.length_take] at hle
      refine ite2 (fun hc => ?_) fun hc => ?_
      · refine ⟨_, h4, by rw [List.length_map]; omega, hD, fun b o e => ?_, ?_⟩
        · rw [upd_ne (ne_of_none e hD)]; exact k4 _ _ e
        · rw [upd_same, if_pos hc]; simp
      · refine ⟨hD, k4, ?_⟩
        rw [if_neg hc, List.append_nil]; exact h4
    · rintro D H4 hD ⟨_, k4, h4⟩
      refine ⟨k4 _ _ e3, ?_⟩
      rw [List.length_map, List.take_length] at h4
      have hDd : D ≠ d := fun e => by rw [e, e3] at hD; cases hD
      generalize hG2 : upd H4 d _ = H5
      obtain ⟨k5, e5⟩ := gen_chg hG2
      have h5 := k5 _ _ h4 hDd
      refine ⟨D, _, rfl, .inl ⟨SqL.of h5, fun p hp => ?_⟩⟩
      generalize hG3 : upd H5 p _ = H6
      obtain ⟨k6, e6⟩ := gen_new hp hG3
      refine q p H6 (fun b o e => k6 _ _ ?_) (SqT.of e6)
      have e1 := k2 _ _ (k1 _ _ e)
      have bd : b ≠ d := fun z => by rw [z, hdn] at e; cases e
      exact k5 _ _ (k4 _ _ (k3 _ _ e1 bd)) bd
end
end Tw
set_option Elab.async false
set_option linter.all false
set_option maxRecDepth 100000
set_option maxHeartbeats 4000000
/-! kids of names, names in their order, a pick -/
namespace Tw
open PySem PySem.Spec PyProof.Rows L2 TL
local macro_rules | `(tactic| walk_at "rd") => `(tactic| try simp only [o_op, o_un, o_var, o_c, o_cb, o_call, o_cons, o_nil, o_tup, o_lst, o_I0, o_I, o_int1, o_intb, o_abs, o_test, o_b, o_not, o_and, o_or, o_andV, o_orV, o_notV, o_ifE, o_isN, o_notN, o_eq, o_ne, o_seq, o_next, o_asg, o_name, o_sub, o_par, o_par3, o_drop, o_ret, o_retN, o_ifS, o_sl, o_noPart, o_part, o_bm, o_bm0, o_m0, o_m1, o_dget, o_dput, o_din, o_dnotin, o_listKeys, e_bl, e_int, e_str, e_some, e_two, e_three, o_for, o_lc, o_iList, o_iTup, o_iRng1, e_int1, e_ref, o_yes, o_wipe0, o_wipe1, o_disp, o_dnew, o_pairs0, o_pairs1, o_lock, o_keysM, o_gtup, o_gcons, o_gnil, o_rU, o_tru, o_revT, o_enumT, o_from, true_and, if_pos, List.getElem?_cons_zero, List.getElem?_cons_succ, List.set_cons_zero, List.set_cons_succ, List.append_nil])
theorem filt_app (a b : List (Str × V)) (v : V) : filt (a ++ b) v = filt a v ++ filt b v := by simp [filt]
theorem filt_cons (n : Str) (t v : V) (r : List (Str × V)) : filt ((n, t) :: r) v = (if t = v then [n] else []) ++ filt r v := by
  by_cases h : t = v <;> simp [filt, List.filter_cons, h]
theorem filt_no : ∀ {f : Fo} {t v : V}, v ≠ t → (∀ n ∈ f.nm, v ≠ .str n) → filt (pars f t) v = []
  | .nil, _, _, _, _ => rfl
  | .cons n ks r, t, v, h1, h2 => by
    rw [pars, filt_cons, if_neg h1.symm, filt_app, filt_no (h2 n (List.mem_cons_self ..)) fun m hm => h2 m (List.mem_cons_of_mem _ (List.mem_append_left _ hm)),
      filt_no h1 fun m hm => h2 m (List.mem_cons_of_mem _ (List.mem_append_right _ hm))]
    rfl
theorem filt_top : ∀ {f : Fo} {t : V}, (∀ n ∈ f.nm, t ≠ .str n) → filt (pars f t) t = f.tops
  | .nil, _, _ => rfl
  | .cons n ks r, t, h => by
    rw [pars, filt_cons, if_pos rfl, filt_app, filt_no (h n (List.mem_cons_self ..)) fun m hm => h m (List.mem_cons_of_mem _ (List.mem_append_left _ hm)),
      filt_top fun m hm => h m (List.mem_cons_of_mem _ (List.mem_append_right _ hm))]
    rfl
theorem filt_rep : ∀ {f : Fo} {t : V}, f.nm.Nodup → (∀ n ∈ f.nm, t ≠ .str n) → Fo.Rep (fun n => filt (pars f t) (.str n)) f
  | .nil, _, _, _ => trivial
  | .cons n ks r, t, nd, h => by
    have nd2 : (n :: (ks.nm ++ r.nm)).Nodup := nd
    rw [List.nodup_cons, List.nodup_append] at nd2
    obtain ⟨hn, ndk, ndr, dis⟩ := nd2
    have hk : ∀ m ∈ ks.nm, t ≠ .str m := fun m hm => h m (List.mem_cons_of_mem _ (List.mem_append_left _ hm))
    have hr : ∀ m ∈ r.nm, t ≠ .str m := fun m hm => h m (List.mem_cons_of_mem _ (List.mem_append_right _ hm))
    have hnt := h n (List.mem_cons_self ..)
    refine ⟨?_, ?_, ?_⟩
    · show filt (pars (.cons n ks r) t) (.str n) = ks.tops
      rw [pars, filt_cons, if_neg hnt, filt_app, filt_top (fun m hm e => hn (List.mem_append_left _ (by rw [V.str.inj e]; exact hm))), filt_no hnt.symm fun m hm e => hn (List.mem_append_right _ (by rw [V.str.inj e]; exact hm))]
      simp
    · refine Fo.Rep.congr (filt_rep (f := ks) (t := .str n) ndk fun m hm e => hn (List.mem_append_left _ (by rw [V.str.inj e]; exact hm))) fun m hm => ?_
      show filt (pars (.cons n ks r) t) (.str m) = _
      rw [pars, filt_cons, if_neg (hk m hm), filt_app, filt_no (f := r) (hk m hm).symm fun l hl e => dis m hm l hl (V.str.inj e)]
      simp
    · refine Fo.Rep.congr (filt_rep (f := r) (t := t) ndr hr) fun m hm => ?_
      show filt (pars (.cons n ks r) t) (.str m) = _
      rw [pars, filt_cons, if_neg (hr m hm), filt_app, filt_no (f := ks) (fun e => hn (List.mem_append_right _ (by rw [← V.str.inj e]; exact hm))) fun l hl e => dis l hl m hm (V.str.inj e).symm]
      simp
/-- what lies right in a node, in the whole for "" -/
def gOf (f : Fo) (n : Str) : List Str := if n = "" then f.tops else filt (pars f .non) (.str n)
theorem gOf_rep {f : Fo} (h : NameOk f) : f.Rep (gOf f) :=
  Fo.Rep.congr (filt_rep (t := .non) h.nd fun n _ e => by cases e) fun n hn => by unfold gOf; rw [if_neg (h.nms n hn).ne]
theorem gOf_in {f : Fo} {k z : Str} (h : z ∈ gOf f k) : (z, if k = "" then V.non else V.str k) ∈ pars f .non := by
  unfold gOf at h
  have key : ∀ v, z ∈ filt (pars f .non) v → (z, v) ∈ pars f .non := fun v hz => by
    obtain ⟨p, hp, e⟩ := List.mem_map.mp hz
    obtain ⟨hp1, hp2⟩ := List.mem_filter.mp hp
    have e2 : p.2 = v := by simpa using hp2
    rw [← e, ← e2]; exact hp1
  by_cases e : k = ""
  · rw [if_pos e] at h ⊢
    rw [← filt_top (f := f) (t := .non) fun n _ e => by cases e] at h
    exact key _ h
  · rw [if_neg e] at h ⊢
    exact key _ h
theorem pars_val : ∀ {f : Fo} {t : V} {p : Str × V}, p ∈ pars f t → p.2 = t ∨ ∃ m ∈ f.nm, p.2 = .str m
  | .cons n ks r, t, p, h => by
    rcases List.mem_cons.mp h with e | h
    · rw [e]; exact .inl rfl
    · rcases List.mem_append.mp h with h | h
      · rcases pars_val h with e | ⟨m, hm, e⟩
        · exact .inr ⟨n, List.mem_cons_self .., e⟩
        · exact .inr ⟨m, List.mem_cons_of_mem _ (List.mem_append_left _ hm), e⟩
      · rcases pars_val h with e | ⟨m, hm, e⟩
        · exact .inl e
        · exact .inr ⟨m, List.mem_cons_of_mem _ (List.mem_append_right _ hm), e⟩
theorem in_gOf {f : Fo} (hf : NameOk f) {z : Str} {v : V} (h : (z, v) ∈ pars f .non) : (v = .non ∧ z ∈ gOf f "") ∨ ∃ m ∈ f.nm, v = .str m ∧ z ∈ gOf f m := by
  have key : z ∈ filt (pars f .non) v := List.mem_map.mpr ⟨(z, v), List.mem_filter.mpr ⟨h, by simp⟩, rfl⟩
  rcases pars_val h with e | ⟨m, hm, e⟩
  · refine .inl ⟨e, ?_⟩
    unfold gOf
    rw [if_pos rfl, ← filt_top (f := f) (t := .non) fun n _ e => by cases e]
    have e2 : v = .non := e
    rw [← e2]; rw [e2] at key ⊢; exact key
  · have e2 : v = .str m := e
    refine .inr ⟨m, hm, e2, ?_⟩
    unfold gOf
    rw [if_neg (hf.nms m hm).ne]
    rw [e2] at key; exact key
theorem gOf_len {f : Fo} (n : Str) : (gOf f n).length ≤ f.nm.length := by
  have hp : (pars f .non).length = f.nm.length := by rw [← pars_nm f .non, List.length_map]
  unfold gOf
  by_cases e : n = ""
  · rw [if_pos e, ← filt_top (f := f) (t := .non) fun n _ e => by cases e]
    have := filt_le (pars f .non) .non
    omega
  · rw [if_neg e]
    have := filt_le (pars f .non) (.str n)
    omega
/-! ### kids -/
def sp_l_kids (K : PySem.W.Frag) : Sp := fun vs H Q _ => ∃ a f, vs = [.ref a] ∧ WoodAt K H a f ∧ NameOk f ∧ ∀ (d : Addr) (H' : Hp) (ks : List Str) (at_ : Str → Addr), Kp H H' → H d = none → (∀ n ∈ ks, H (at_ n) = none) → Kids H' d ks (gOf f) at_ → (∀ n, n ∈ ks ↔ n = "" ∨ n ∈ f.nm) → ks.length ≤ 1001 → Q (.ref d) H'
def t_l_kids_b1 (K : PySem.W.Frag) : TS :=
  (tSeq (tAsg (tBM0 K "list" rPop (tVar 2)) (gTup K 2 (gCons (gName 3) (gCons (gName 4) gNil))))
  (tSeq (sDPut (tVar 1) (tVar 3) (tLc (iTup K (tVar 4)) (gName 5) tYes (tOp (rIxT K) (tVar 5) (tC (.int 0))) [5]))
  (tDrop (tBM K "list" (rExtendT K) (tVar 2) (tCons (tVar 4) tNil)))))
def t_l_kids (K : PySem.W.Frag) : TS :=
  (tSeq (tAsg (tDisp [((tC (.str "")), (tLc (iTup K (tVar 0)) (gName 5) tYes (tOp (rIxT K) (tVar 5) (tC (.int 0))) [5]))]) (gName 1))
  (tSeq (tAsg (tCB (rListOf K) (tCons (tVar 0) tNil)) (gName 2))
  (tSeq (tWhile (tTest (tOp (rNeB K) (tVar 2) (tLst tNil)))
  (t_l_kids_b1 K))
  (tRet (tVar 1)))))
section
variable {K : PySem.W.Frag}
theorem len_l_kids (vs : List V) (H : Hp) (Q : VK) (E : XK) (h : sp_l_kids K vs H Q E) : vs.length = 1 := by
  obtain ⟨_, _, rfl, _⟩ := h; rfl
theorem Rp.tree {H : Hp} : ∀ {i : Nat} {vs : List V} {f : Fo} {n : Str}, Rp K H vs f → f.tops[i]? = some n → ∃ (t k : Addr), vs[i]? = some (.ref t) ∧ SqT K H t [.str n, .ref k]
  | _, _, _, _, .nil, h => by simp [Fo.tops] at h
  | 0, _, _, _, .cons (t := t) (k := k) a _ _ _, h => by
    have e := Option.some.inj (show some _ = some _ from h)
    exact ⟨t, k, rfl, by rw [← e]; exact a⟩
  | i + 1, _, _, _, .cons _ _ _ d, h => by
    obtain ⟨t, k, h1, h2⟩ := Rp.tree (i := i) d (by simpa [Fo.tops] using h)
    exact ⟨t, k, by simpa using h1, h2⟩
theorem lc_tops {H : Hp} {a : Addr} {vs : List V} {f : Fo} {s0 s1 s2 s3 s4 s5 : Option V} {Q : VK} (ha : SqT K H a vs) (rp : Rp K H vs f) (hl : f.tops.length ≤ 100000) (q : ∀ D H', Kp H H' → H D = none → H' D = some (.lst (f.tops.map V.str)) → Q (.ref D) H') :
    LcB (Itt K a) (gName 5) tYes (tOp (rIxT K) (tVar 5) (tC (.int 0))) [5] [s0, s1, s2, s3, s4, s5] H Q := by
  have hz := sizeLine_eq
  refine lb_walk (n := vs.length) walk_tup (fun D i H2 => H D = none ∧ Kp H H2 ∧ H2 D = some (.lst ((f.tops.take i).map V.str))) ?_ ?_ ?_ ?_
  · intro D hD
    exact ⟨hD, (show Kp H H from fun _ _ h => h).new hD, by rw [upd_same]; rfl⟩
  · rintro D i H2 hi ⟨hD, k2, _⟩
    exact Tk.kp k2 _ _ ha
  · rintro D i x H2 H3 hi ⟨hD, k2, h2⟩ ⟨rfl, hx⟩
    have hit : i < f.tops.length := by rw [← rp.len]; exact hi
    obtain ⟨n, hn⟩ : ∃ n, f.tops[i]? = some n := ⟨_, List.getElem?_eq_getElem hit⟩
    obtain ⟨t, k, h1, h3⟩ := rp.tree hn
    rw [hx] at h1
    cases h1
    show gName 5 (.ref t) _ _ _
    walk_at "rd"
    refine ⟨t, _, 0, .str n, rfl, rfl, Tk.kp k2 _ _ h3, atI_nat (j := 0) rfl, ?_⟩
    refine ⟨_, h2, by rw [List.length_map, List.length_take]; omega, hD, fun b o e => ?_, ?_⟩
    · rw [upd_ne (ne_of_none e hD)]; exact k2 _ _ e
    · rw [upd_same, List.take_add_one, hn]; simp
  · rintro D H2 hD ⟨_, k2, h2⟩
    rw [rp.len, List.take_length] at h2
    exact q D H2 k2 hD h2
theorem Kids.add {H H1 : Hp} {d p : Addr} {ks : List Str} {g : Str → List Str} {at_ : Str → Addr} {x : Str} (k : Kids H d ks g at_) (hx : x ∉ ks) (hp : H p = none) (h : ∀ b o, H b = some o → b ≠ d → H1 b = some o) (h1 : H1 p = some (.lst ((g x).map V.str)))
    (hd : H1 d = some (.dK (kvs (ks ++ [x]) fun n => .ref (if n = x then p else at_ n)))) : Kids H1 d (ks ++ [x]) g (fun n => if n = x then p else at_ n) := by
  have hdn : ∀ n ∈ ks, at_ n ≠ d := fun n hn e => by have := k.lists n hn; rw [e, k.dict] at this; cases this
  have hpn : ∀ n ∈ ks, at_ n ≠ p := fun n hn e => by have := k.lists n hn; rw [e, hp] at this; cases this
  have old : ∀ n ∈ ks ++ [x], n ≠ x → n ∈ ks := fun n hn z => by
    rcases List.mem_append.mp hn with y | y
    · exact y
    · exact absurd (List.mem_singleton.mp y) z
  refine ⟨hd, fun n hn => ?_, fun n hn m hm e => ?_, nodup_snoc k.nd hx⟩
  · show H1 (if n = x then p else at_ n) = _
    by_cases e : n = x
    · rw [if_pos e, e]; exact h1
    · rw [if_neg e]
      exact h _ _ (k.lists n (old n hn e)) (hdn n (old n hn e))
  · have e : (if n = x then p else at_ n) = (if m = x then p else at_ m) := e
    by_cases a1 : n = x <;> by_cases b1 : m = x
    · rw [a1, b1]
    · rw [if_pos a1, if_neg b1] at e; exact absurd e.symm (hpn m (old m hm b1))
    · rw [if_neg a1, if_pos b1] at e; exact absurd e (hpn n (old n hn a1))
    · rw [if_neg a1, if_neg b1] at e; exact k.inj n (old n hn a1) m (old m hm b1) e
theorem Fo.nm_app : ∀ f g : Fo, (f.app g).nm = f.nm ++ g.nm
  | .nil, _ => rfl
  | .cons n ks r, g => by simp only [Fo.app, Fo.nm, Fo.nm_app r g, List.cons_append, List.append_assoc]
theorem Fo.Rep.app {g : Str → List Str} : ∀ {a b : Fo}, a.Rep g → b.Rep g → (a.app b).Rep g
  | .nil, _, _, h => h
  | .cons _ _ _, _, ⟨h1, h2, h3⟩, h => ⟨h1, h2, Fo.Rep.app h3 h⟩
theorem Fo.Rep.left {g : Str → List Str} : ∀ {a b : Fo}, (a.app b).Rep g → a.Rep g ∧ b.Rep g
  | .nil, _, h => ⟨trivial, h⟩
  | .cons _ _ _, _, ⟨h1, h2, h3⟩ => ⟨⟨h1, h2, (Fo.Rep.left h3).1⟩, (Fo.Rep.left h3).2⟩
/-- a forest that is not empty has a last tree -/
theorem Fo.last : ∀ f : Fo, f = .nil ∨ ∃ (g : Fo) (n : Str) (ks : Fo), f = g.app (.cons n ks .nil)
  | .nil => .inl rfl
  | .cons n ks r => by
    rcases Fo.last r with e | ⟨g, m, k2, e⟩
    · exact .inr ⟨.nil, n, ks, by rw [e]; rfl⟩
    · exact .inr ⟨.cons n ks g, m, k2, by rw [e]; rfl⟩
theorem o_neNil {a b : Addr} {vs : List V} {f : Fo} {H : Hp} {Q : VK} (ha : H a = some (.lst vs)) (rp : Rp K H vs f) (hb : H b = some (.lst [])) (hn : ∀ z ∈ f.nm, IsName z) (q : Q (.bl (!vs.isEmpty)) H) : rNeB K (.ref a) (.ref b) H Q := by
  refine ⟨.list f.data, .list [], .lst (SqL.of ha) rp.dp, .lst (SqL.of hb) .nil, ?_, by simp [PyData.canLay0, PyData.canLayAll0], ?_, ?_⟩
  · rw [PyData.canLay0]; exact data_lay f hn
  · simp only [PyData.depth, PyData.depthAll]; omega
  · have e : PyData.eqv (.list f.data) (.list []) = vs.isEmpty := by
      cases rp with
      | nil => simp [Fo.data, PyData.eqv, PyData.eqvAll]
      | cons _ _ _ _ => simp [Fo.data, PyData.eqv, PyData.eqvAll]
    rw [e]; exact q
theorem tops_le : ∀ f : Fo, f.tops.length ≤ f.nm.length
  | .nil => Nat.le_refl _
  | .cons n ks r => by have := tops_le r; simp only [Fo.tops, Fo.nm, List.length_cons, List.length_append]; omega
/-- the loop's state: done keys, trees that wait -/
def KidInv (K : PySem.W.Frag) (H : Hp) (a d wn : Addr) (f : Fo) (m : Nat) (σ : L2.St) (H4 : Hp) : Prop :=
  ∃ ks at_ ws fw x y z, Kp H H4 ∧ H d = none ∧ H wn = none ∧ ("" : Str) ∈ ks ∧ (∀ n ∈ ks, H (at_ n) = none) ∧ Kids H4 d ks (gOf f) at_ ∧ (∀ n ∈ ks, at_ n ≠ wn) ∧ H4 wn = some (.lst ws) ∧ Rp K H4 ws fw ∧ fw.Rep (gOf f) ∧ (ks ++ fw.nm).Perm ("" :: f.nm) ∧ m = fw.nm.length ∧
    σ = [some (.ref a), some (.ref d), some (.ref wn), x, y, z]
theorem pure_l_kids (vs : List V) (H : Hp) (Q : VK) (E : XK) (h : sp_l_kids K vs H Q E) : t_l_kids K { nx := fun _ H' => Q .non H', rt := Q } (startN 6 vs) H := by
  obtain ⟨a, f, rfl, ⟨fv, ha, rp⟩, hf, q⟩ := h
  show t_l_kids K _ [some (.ref a), none, none, none, none, none] H
  unfold t_l_kids
  have hz := sizeLine_eq
  have hsz := hf.sz
  have htl := tops_le f
  have hall : (("" : Str) :: f.nm).Nodup := List.nodup_cons.mpr ⟨fun hm => (hf.nms "" hm).ne rfl, hf.nd⟩
  walk_at "rd"
  intro d hdn
  generalize hG : upd H d _ = H1
  obtain ⟨k1, e1⟩ := gen_new hdn hG
  clear hG
  refine ⟨⟨_, Tk.kp k1 _ _ ha⟩, ?_⟩
  refine lc_tops (Tk.kp k1 _ _ ha) (rp.mono (Tk.kp k1)) (by omega) fun l H2 k2 hl e2 => ?_
  refine ⟨k2 _ _ e1, [((Sum.inr ("" : Str) : Key), .ref l)], rfl, by show 1 ≤ 15; decide, ?_⟩
  generalize hG : upd H2 d _ = H3
  obtain ⟨k3, e3⟩ := gen_chg hG
  clear hG
  have hdl : d ≠ l := ne_of_none e1 hl
  have k03 : Kp H H3 := fun b o e => k3 _ _ (k2 _ _ (k1 _ _ e)) (ne_of_none e hdn)
  walk_at "rd"
  refine ⟨a, _, rfl, .inr (Tk.kp k03 _ _ ha), fun wn hwn => ?_⟩
  generalize hG : upd H3 wn _ = H4
  obtain ⟨k4, e4⟩ := gen_new hwn hG
  clear hG
  have k04 : Kp H H4 := fun b o e => k4 _ _ (k03 _ _ e)
  have l3 := k3 _ _ e2 hdl.symm
  have lwn : l ≠ wn := ne_of_none l3 hwn
  have dwn : d ≠ wn := ne_of_none e3 hwn
  walk_at "rd"
  refine ⟨KidInv K H a d wn f, ⟨_, [""], fun _ => l, fv, f, _, _, _, k04, hdn, Kp.free k03 hwn, List.mem_singleton.mpr rfl, fun n _ => Kp.free k1 hl, ⟨?_, ?_, ?_, by simp⟩, fun n _ => lwn, e4, rp.mono (Tk.kp k04), gOf_rep hf, by simp, rfl, rfl⟩, ?_⟩
  · rw [k4 _ _ e3]; rfl
  · intro n hn
    rw [List.mem_singleton.mp hn]
    exact k4 _ _ l3
  · intro n hn m hm _
    rw [List.mem_singleton.mp hn, List.mem_singleton.mp hm]
  · rintro m σ H5 ⟨ks, at_, ws, fw, x, y, z, k5, _, hwnH, h0, hatn, kd, hwat, hw5, rpw, rep, perm, rfl, rfl⟩
    walk_at "rd"
    refine ⟨by show 0 ≤ sizeLine; omega, fun nl hnl => ?_⟩
    generalize hG : upd H5 nl _ = H6
    obtain ⟨k6, e6⟩ := gen_new hnl hG
    clear hG
    have hnames : ∀ z ∈ fw.nm, IsName z := fun z hz => by
      have : z ∈ ("" : Str) :: f.nm := perm.mem_iff.mp (List.mem_append_right _ hz)
      rcases List.mem_cons.mp this with e | h
      · have nd := perm.nodup_iff.mpr hall
        exact absurd rfl ((List.nodup_append.mp nd).2.2 _ h0 _ (e ▸ hz))
      · exact hf.nms z h
    have rp6 := rpw.mono (Tk.kp k6)
    refine o_neNil (k6 _ _ hw5) rp6 e6 hnames ?_
    walk_at "rd"
    have hlen := perm.length_eq
    rw [List.length_append, List.length_cons] at hlen
    rcases Fo.last fw with rfl | ⟨g, n, kk, rfl⟩
    · cases rpw
      simp only [List.isEmpty_nil, Bool.not_true, Bool.false_eq_true, if_false]
      refine q d H6 ks at_ (fun b o e => k6 _ _ (k5 _ _ e)) hdn hatn (kd.kp k6) (fun n => ?_) ?_
      · have := perm.mem_iff (a := n)
        simpa [Fo.nm] using this
      · simp only [Fo.nm, List.length_nil] at hlen; omega
    · obtain ⟨v1, v2, rfl, r1, r2⟩ := rp6.split
      cases r2 with
      | @cons t k _ kvs _ _ _ at2 ak rk rn =>
      cases rn
      have hne : (!(v1 ++ [V.ref t]).isEmpty) = true := by simp
      rw [hne, if_pos rfl]
      rw [Fo.nm_app] at perm
      have hfin : (g.app (.cons n kk .nil)).nm.length = g.nm.length + kk.nm.length + 1 := by rw [Fo.nm_app]; simp [Fo.nm]; omega
      refine ⟨KidInv K H a d wn f (g.nm.length + kk.nm.length), fun σ' H' w => ⟨_, by omega, w⟩, ?_⟩
      unfold t_l_kids_b1
      walk_at "rd"
      have hw6 := k6 _ _ hw5
      refine ⟨.inl ⟨rfl, _, SqL.of hw6⟩, wn, _, .ref t, rfl, rfl, hw6, by simp, ?_⟩
      rw [List.dropLast_concat]
      generalize hG : upd H6 wn _ = H7
      obtain ⟨k7, e7⟩ := gen_chg hG
      clear hG
      have t67 : Tk K H6 H7 := Tk.but (.inl ⟨_, hw6⟩) k7
      walk_at "rd"
      refine ⟨t, _, rfl, t67 _ _ at2, rfl, _, _, rfl, _, _, rfl, rfl, ?_⟩
      have ak7 := t67 _ _ ak
      walk_at "rd"
      refine ⟨⟨_, ak7⟩, ?_⟩
      have hkl := tops_le kk
      rw [hfin] at hlen
      refine lc_tops ak7 (rk.mono t67) (by omega) fun p H8 k8 hp e8 => ?_
      have hnk : n ∉ ks := by
        have nd := perm.nodup_iff.mpr hall
        rw [← List.append_assoc] at nd
        intro hm
        exact (List.nodup_append.mp nd).2.2 n (List.mem_append_left _ hm) n (List.mem_cons_self ..) rfl
      have kd7 : Kids H7 d ks (gOf f) at_ := ⟨k7 _ _ (k6 _ _ kd.dict) dwn, fun n hn => k7 _ _ (k6 _ _ (kd.lists n hn)) (hwat n hn), kd.inj, kd.nd⟩
      have kd8 := kd7.kp k8
      refine ⟨d, _, rfl, DPut.k (k := (Sum.inr n : Key)) kd8.dict (by rw [kvs_len]; omega), ?_⟩
      rw [put_new _ _ _ _ hnk]
      generalize hG : upd H8 d _ = H9
      obtain ⟨k9, e9⟩ := gen_chg hG
      clear hG
      have t89 : Tk K H8 H9 := Tk.but (.inr (.inl ⟨_, kd8.dict⟩)) k9
      have hpd : p ≠ d := fun e => by rw [e, kd7.dict] at hp; cases hp
      have hpw : p ≠ wn := fun e => by rw [e, e7] at hp; cases hp
      have e89 := k9 _ _ e8 hpd
      have hgn : gOf f n = kk.tops := by
        have := (Fo.Rep.left rep).2
        exact this.1
      have w9 := k9 _ _ (k8 _ _ e7) dwn.symm
      have t79 : Tk K H7 H9 := (Tk.kp k8).trans t89
      refine ⟨.inl ⟨rfl, _, SqL.of w9⟩, wn, k, _, _, rfl, rfl, w9, t79 _ _ ak7, by rw [r1.len, rk.len]; have := tops_le g; omega, ?_⟩
      generalize hG : upd H9 wn _ = H10
      obtain ⟨k10, e10⟩ := gen_chg hG
      clear hG
      have t910 : Tk K H9 H10 := Tk.but (.inl ⟨_, w9⟩) k10
      have t610 : Tk K H6 H10 := (t67.trans t79).trans t910
      have kd9 : Kids H9 d (ks ++ [n]) (gOf f) (fun m => if m = n then p else at_ m) := by
        refine kd7.add hnk hp (fun b o e nb => k9 _ _ (k8 _ _ e) nb) (by rw [hgn]; exact e89) ?_
        rw [e9]
        congr 3
        funext m; split <;> rfl
      have hat9 : ∀ m ∈ ks ++ [n], (if m = n then p else at_ m) ≠ wn := fun m hm => by
        by_cases e : m = n
        · rw [if_pos e]; exact hpw
        · rw [if_neg e]
          rcases List.mem_append.mp hm with h | h
          · exact hwat m h
          · exact absurd (List.mem_singleton.mp h) e
      refine ⟨ks ++ [n], fun m => if m = n then p else at_ m, _, g.app kk, _, _, _, fun b o e => k10 _ _ (k9 _ _ (k8 _ _ (k7 _ _ (k6 _ _ (k5 _ _ e)) (ne_of_none e hwnH))) (ne_of_none e hdn)) (ne_of_none e hwnH), hdn, hwnH, List.mem_append_left _ h0, fun m hm => ?_, ⟨k10 _ _ kd9.dict dwn, fun m hm => k10 _ _ (kd9.lists m hm) (hat9 m hm), kd9.inj, kd9.nd⟩, hat9, e10, Rp.app (r1.mono t610) (rk.mono t610), Fo.Rep.app (Fo.Rep.left rep).1 (Fo.Rep.left rep).2.2.1, ?_, by rw [Fo.nm_app, List.length_append], rfl⟩
      · show H (if m = n then p else at_ m) = none
        by_cases e : m = n
        · rw [if_pos e]
          exact Kp.free (fun b o e => k7 _ _ (k6 _ _ (k5 _ _ e)) (ne_of_none e hwnH)) hp
        · rw [if_neg e]
          rcases List.mem_append.mp hm with h | h
          · exact hatn m h
          · exact absurd (List.mem_singleton.mp h) e
      · rw [Fo.nm_app]
        refine List.Perm.trans ?_ perm
        rw [List.append_assoc]
        refine List.Perm.append_left _ ?_
        show ([n] ++ (g.nm ++ kk.nm)).Perm (g.nm ++ (n :: (kk.nm ++ [])))
        rw [List.append_nil]
        exact (List.perm_middle (l₁ := g.nm)).symm
end
end Tw
set_option Elab.async false
set_option linter.all false
set_option maxRecDepth 100000
set_option maxHeartbeats 4000000
/-! names in their order, a pick -/
namespace Tw
open PySem PySem.Spec PyProof.Rows L2 TL
local macro_rules | `(tactic| walk_at "rd") => `(tactic| try simp only [o_op, o_un, o_var, o_c, o_cb, o_call, o_cons, o_nil, o_tup, o_lst, o_I0, o_I, o_int1, o_intb, o_abs, o_test, o_b, o_not, o_and, o_or, o_andV, o_orV, o_notV, o_ifE, o_isN, o_notN, o_eq, o_ne, o_seq, o_next, o_asg, o_name, o_sub, o_par, o_par3, o_drop, o_ret, o_retN, o_ifS, o_sl, o_noPart, o_part, o_bm, o_bm0, o_m0, o_m1, o_dget, o_dput, o_din, o_dnotin, o_listKeys, e_bl, e_int, e_str, e_some, e_two, e_three, o_for, o_lc, o_iList, o_iTup, o_iRng1, e_int1, e_ref, o_yes, o_wipe0, o_wipe1, o_disp, o_dnew, o_pairs0, o_pairs1, o_lock, o_keysM, o_gtup, o_gcons, o_gnil, o_rU, o_tru, o_revT, o_enumT, o_from, true_and, if_pos, List.getElem?_cons_zero, List.getElem?_cons_succ, List.set_cons_zero, List.set_cons_succ, List.append_nil])
/-- the promise of the names in their order, by the depth of the wood -/
def spP (K : PySem.W.Frag) : Nat → Sp
  | 0 => fun _ _ _ _ => False
  | m + 1 => fun vs H Q _ => ∃ (a : Addr) (f : Fo), vs = [.ref a] ∧ WoodAt K H a f ∧ f.dp ≤ m ∧ f.nm.length ≤ 1000 ∧ ∀ (p : Addr) (H' : Hp), Kp H H' → H p = none → H' p = some (.lst (f.nm.map V.str)) → Q (.ref p) H'
def sp_l_pick (K : PySem.W.Frag) : Sp := fun vs H Q _ => ∃ (a l : Addr) (xs : List V), vs = [.ref a, .ref l] ∧ DeckAt H a ∧ SqL K H l xs ∧ l ≠ a ∧ xs ≠ [] ∧ xs.length ≤ 1000000 ∧ ∀ (x : V) (H' : Hp), x ∈ xs → Dk a H H' → Q x H'
def t_l_preorder_b1 (K : PySem.W.Frag) (rec : Sp) : TS :=
  (tAsg (tOp rCat (tOp rCat (tVar 1) (tLst (tCons (tVar 2) tNil))) (tCall rec [] E0 (tCons (tVar 3) tNil))) (gName 1))
def t_l_preorder (K : PySem.W.Frag) (rec : Sp) : TS :=
  (tSeq (tAsg (tLst tNil) (gName 1))
  (tSeq (tFor (iTup K (tVar 0)) (gTup K 2 (gCons (gName 2) (gCons (gName 3) gNil)))
  (t_l_preorder_b1 K rec))
  (tRet (tVar 1))))
def t_l_pick (K : PySem.W.Frag) : TS :=
  (tRet (tOp (rIxL K) (tVar 1) (tCall sp_l_draw [] E0 (tCons (tVar 0) (tCons (tCB (rLenSeq K) (tCons (tVar 1) tNil)) tNil)))))
section
variable {K : PySem.W.Frag}
theorem len_spP {m : Nat} (vs : List V) (H : Hp) (Q : VK) (E : XK) (h : spP K m vs H Q E) : vs.length = 1 := by
  cases m with
  | zero => exact False.elim h
  | succ m =>
    obtain ⟨_, _, rfl, _⟩ := h
    rfl
theorem len_l_pick (vs : List V) (H : Hp) (Q : VK) (E : XK) (h : sp_l_pick K vs H Q E) : vs.length = 2 := by
  obtain ⟨_, _, _, rfl, _⟩ := h
  rfl
theorem pure_l_pick (vs : List V) (H : Hp) (Q : VK) (E : XK) (h : sp_l_pick K vs H Q E) : t_l_pick K { nx := fun _ H' => Q .non H', rt := Q } (startN 2 vs) H := by
  obtain ⟨a, l, xs, rfl, hd, hl, hla, hne, hsz, q⟩ := h
  show t_l_pick K _ [some (.ref a), some (.ref l)] H
  unfold t_l_pick
  walk_at "rd"
  refine ⟨l, _, rfl, .inl hl, ?_⟩
  have h1 : 1 ≤ xs.length := by cases xs with | nil => exact absurd rfl hne | cons _ _ => simp
  refine o_draw hd (by omega) (by omega) fun c H1 c0 c1 k1 => ?_
  obtain ⟨j, rfl⟩ : ∃ j : Nat, c = (j : Int) := ⟨c.toNat, by omega⟩
  have hj : j < xs.length := by omega
  exact o_ixLq (SqL.keep hl hla k1.keep) (atI_nat (v := xs[j]) (List.getElem?_eq_getElem hj)) (q _ H1 (List.getElem_mem hj) k1)
/-- a pick of a text -/
theorem o_pick {a l : Addr} {zs : List Str} {H : Hp} {Q : VK} {E : XK} (hd : DeckAt H a) (hl : H l = some (.lst (zs.map V.str))) (hla : l ≠ a) (hne : zs ≠ []) (hsz : zs.length ≤ 1000000) (q : ∀ (z : Str) (H' : Hp), z ∈ zs → Dk a H H' → Q (.str z) H') : sp_l_pick K [.ref a, .ref l] H Q E := by
  refine ⟨a, l, _, rfl, hd, SqL.of hl, hla, fun e => hne (List.map_eq_nil_iff.mp e), by rw [List.length_map]; exact hsz, fun x H' hx k => ?_⟩
  obtain ⟨z, hz, rfl⟩ := List.mem_map.mp hx
  exact q z H' hz k
theorem nm_take {n : Str} {ks r : Fo} : ∀ {i : Nat} {f : Fo}, f.fdrop i = .cons n ks r → (f.ftake (i + 1)).nm = (f.ftake i).nm ++ n :: ks.nm
  | 0, f, e => by
    have e2 : f = .cons n ks r := e
    subst e2
    simp [Fo.ftake, Fo.nm]
  | i + 1, .nil, e => by cases e
  | i + 1, .cons m ks' r', e => by
    have h := nm_take (i := i) (f := r') e
    simp only [Fo.ftake, Fo.nm] at h ⊢
    rw [h]; simp
theorem drop_len {n : Str} {ks r : Fo} : ∀ {i : Nat} {f : Fo}, f.fdrop i = .cons n ks r → ks.dp + 1 ≤ f.dp ∧ ks.nm.length + 1 ≤ f.nm.length
  | 0, f, e => by
    have e2 : f = .cons n ks r := e
    subst e2
    exact ⟨by simp only [Fo.dp]; omega, by simp only [Fo.nm, List.length_cons, List.length_append]; omega⟩
  | i + 1, .nil, e => by cases e
  | i + 1, .cons m ks' r', e => by
    obtain ⟨h2, h4⟩ := drop_len (i := i) (f := r') e
    exact ⟨by simp only [Fo.dp]; omega, by simp only [Fo.nm, List.length_cons, List.length_append]; omega⟩
theorem pure_l_preorder {m : Nat} (vs : List V) (H : Hp) (Q : VK) (E : XK) (h : spP K (m + 1) vs H Q E) : t_l_preorder K (spP K m) { nx := fun _ H' => Q .non H', rt := Q } (startN 4 vs) H := by
  obtain ⟨a, f, rfl, hw, hdp, hsz, q⟩ := h
  show t_l_preorder K _ _ [some (.ref a), none, none, none] H
  unfold t_l_preorder
  have hz := sizeLine_eq
  walk_at "rd"
  refine ⟨Nat.zero_le _, fun p0 hp0 => ?_⟩
  generalize hG : upd H p0 _ = H1
  obtain ⟨k1, e1⟩ := gen_new hp0 hG
  clear hG
  walk_at "rd"
  obtain ⟨ws, hws, rp⟩ := hw
  refine ⟨⟨_, Tk.kp k1 _ _ hws⟩, ?_⟩
  refine fb_tup (xs := ws) (fun i σ H2 => Kp H H2 ∧ ∃ p x y, H p = none ∧ H2 p = some (.lst ((f.ftake i).nm.map V.str)) ∧ σ = [some (.ref a), some (.ref p), x, y]) ?_ ?_ ?_ ?_
  · exact ⟨k1, p0, _, _, hp0, e1, rfl⟩
  · rintro i σ H2 _ ⟨k2, _⟩
    exact Tk.kp k2 _ _ hws
  · rintro i x σ H2 hx ⟨k2, p, y1, y2, hpn, hp, rfl⟩
    obtain ⟨t, k, n, kvs, ks, r, rfl, hf, ht, hk, hr⟩ := rp.at hx
    walk_at "rd"
    refine ⟨t, _, rfl, Tk.kp k2 _ _ ht, rfl, _, _, rfl, _, _, rfl, rfl, ?_⟩
    have hin := drop_len hf
    have hlen1 : ((f.ftake i).nm.map V.str).length ≤ 1000 := by
      rw [List.length_map]; have := nm_take_le (i := i) (f := f); omega
    unfold t_l_preorder_b1
    walk_at "rd"
    refine ⟨by show 1 ≤ sizeLine; omega, fun p1 hp1 => ?_⟩
    generalize hG : upd H2 p1 _ = H3
    obtain ⟨k3, e3⟩ := gen_new hp1 hG
    clear hG
    refine ⟨p, p1, _, _, rfl, rfl, k3 _ _ hp, e3, by simp only [List.length_cons, List.length_nil]; omega, fun p2 hp2 => ?_⟩
    generalize hG : upd H3 p2 _ = H4
    obtain ⟨k4, e4⟩ := gen_new hp2 hG
    clear hG
    have k24 : Kp H2 H4 := fun b o e => k4 _ _ (k3 _ _ e)
    have k04 : Kp H H4 := fun b o e => k24 _ _ (k2 _ _ e)
    cases m with
    | zero => omega
    | succ m =>
      refine ⟨k, ks, rfl, ⟨kvs, Tk.kp k04 _ _ hk, hr.mono (Tk.kp k04)⟩, by omega, by omega, fun p5 H5 k5 hp5 h5 => ?_⟩
      refine ⟨p2, p5, _, _, rfl, rfl, k5 _ _ e4, h5, by simp only [List.length_cons, List.length_nil, List.length_append, List.length_map] at hlen1 ⊢; omega, fun p6 hp6 => ?_⟩
      generalize hG : upd H5 p6 _ = H6
      obtain ⟨k6, e6⟩ := gen_new hp6 hG
      clear hG
      refine ⟨fun b o e => k6 _ _ (k5 _ _ (k04 _ _ e)), p6, _, _, Kp.free (fun b o e => k5 _ _ (k04 _ _ e)) hp6, ?_, rfl⟩
      rw [nm_take hf, e6]
      simp
  · rintro σ H2 ⟨k2, p, y1, y2, hpn, hp, rfl⟩
    walk_at "rd"
    rw [rp.len, ftake_all] at hp
    exact q p H2 k2 hpn hp
end
end Tw
set_option Elab.async false
set_option linter.all false
set_option maxRecDepth 100000
set_option maxHeartbeats 4000000
/-! skeletons and gaps -/
namespace Tw
open PySem PySem.Spec PyProof.Rows L2 TL
local macro_rules | `(tactic| walk_at "rd") => `(tactic| try simp only [o_op, o_un, o_var, o_c, o_cb, o_call, o_cons, o_nil, o_tup, o_lst, o_I0, o_I, o_int1, o_intb, o_abs, o_test, o_b, o_not, o_and, o_or, o_andV, o_orV, o_notV, o_ifE, o_isN, o_notN, o_eq, o_ne, o_seq, o_next, o_asg, o_name, o_sub, o_par, o_par3, o_drop, o_ret, o_retN, o_ifS, o_sl, o_noPart, o_part, o_bm, o_bm0, o_m0, o_m1, o_dget, o_dput, o_din, o_dnotin, o_listKeys, e_bl, e_int, e_str, e_some, e_two, e_three, o_for, o_lc, o_iList, o_iTup, o_iRng1, e_int1, e_ref, o_yes, o_wipe0, o_wipe1, o_disp, o_dnew, o_pairs0, o_pairs1, o_lock, o_keysM, o_gtup, o_gcons, o_gnil, o_rU, o_tru, o_revT, o_enumT, o_from, true_and, if_pos, List.getElem?_cons_zero, List.getElem?_cons_succ, List.set_cons_zero, List.set_cons_succ, List.append_nil])
namespace Fo
/-- the wood of the names in S alone -/
def skel (S : List Str) : Fo → Fo
  | nil => nil
  | cons n ks r => if n ∈ S then cons n (skel S ks) (skel S r) else (skel S ks).app (skel S r)
theorem erow_app : ∀ f g : Fo, (f.app g).erow = f.erow ++ g.erow
  | nil, _ => rfl
  | cons n ks r, g => by simp only [app, erow, erow_app r g, List.cons_append, List.append_assoc]
theorem erow_skel (S : List Str) : ∀ f : Fo, (skel S f).erow = f.erow.filter fun e => decide (e.2 ∈ S)
  | nil => rfl
  | cons n ks r => by
    unfold skel
    by_cases h : n ∈ S
    · rw [if_pos h]
      simp only [erow, List.filter_cons, h, decide_true, if_true, List.filter_append, erow_skel S ks, erow_skel S r]
    · rw [if_neg h, erow_app, erow_skel S ks, erow_skel S r]
      simp only [erow, List.filter_cons, h, decide_false, Bool.false_eq_true, if_false, List.filter_append]
theorem nm_skel (S : List Str) (f : Fo) : (skel S f).nm = f.nm.filter fun n => decide (n ∈ S) := by
  rw [← pls_row, erow_skel, ← pls_row]
  unfold pls
  rw [List.filter_filter, List.filter_map, List.filter_filter]
  congr 1
  congr 1
  funext e
  exact Bool.and_comm _ _
end Fo
theorem NameOk.skel {f : Fo} (h : NameOk f) (S : List Str) : NameOk (f.skel S) := by
  have e := Fo.nm_skel S f
  refine ⟨by rw [e]; exact h.nd.filter _, fun z hz => ?_, ?_⟩
  · rw [e] at hz
    exact h.nms z (List.mem_filter.mp hz).1
  · rw [e]
    have := List.length_filter_le (fun n => decide (n ∈ S)) f.nm
    have := h.sz
    omega
theorem Fo.dp_app : ∀ f g : Fo, (f.app g).dp = max f.dp g.dp
  | .nil, g => by simp [Fo.app, Fo.dp]
  | .cons n ks r, g => by simp only [Fo.app, Fo.dp, Fo.dp_app r g]; omega
theorem Fo.dp_skel (S : List Str) : ∀ f : Fo, (f.skel S).dp ≤ f.dp
  | .nil => Nat.le_refl _
  | .cons n ks r => by
    have h1 := Fo.dp_skel S ks
    have h2 := Fo.dp_skel S r
    unfold Fo.skel
    split
    · simp only [Fo.dp]; omega
    · rw [Fo.dp_app]; simp only [Fo.dp]; omega
/-- the ends between those of S -/
def gapL (S : List Str) : List En → List Str → List (List Str)
  | [], cur => [cur]
  | e :: es, cur => if e.2 ∈ S then cur :: gapL S es [] else gapL S es (cur ++ [en e])
theorem gapL_cons (S : List Str) (e : En) (es : List En) (cur : List Str) : gapL S (e :: es) cur = if e.2 ∈ S then cur :: gapL S es [] else gapL S es (cur ++ [en e]) := rfl
theorem gapL_len (S : List Str) : ∀ (es : List En) (cur : List Str), (gapL S es cur).length ≤ es.length + 1
  | [], _ => Nat.le_refl _
  | e :: es, cur => by
    unfold gapL
    split
    · have := gapL_len S es []; simp only [List.length_cons]; omega
    · have := gapL_len S es (cur ++ [en e]); simp only [List.length_cons]; omega
theorem gapL_mem (S : List Str) : ∀ (es : List En) (cur : List Str) (g : List Str), g ∈ gapL S es cur → ∀ z ∈ g, z ∈ cur ∨ ∃ e ∈ es, z = en e
  | [], cur, g, h, z, hz => by rw [List.mem_singleton.mp h] at hz; exact .inl hz
  | e :: es, cur, g, h, z, hz => by
    unfold gapL at h
    split at h
    · rcases List.mem_cons.mp h with h | h
      · rw [h] at hz; exact .inl hz
      · rcases gapL_mem S es [] g h z hz with h | ⟨d, hd, ez⟩
        · cases h
        · exact .inr ⟨d, List.mem_cons_of_mem _ hd, ez⟩
    · rcases gapL_mem S es _ g h z hz with h | ⟨d, hd, ez⟩
      · rcases List.mem_append.mp h with h | h
        · exact .inl h
        · exact .inr ⟨e, List.mem_cons_self .., List.mem_singleton.mp h⟩
      · exact .inr ⟨d, List.mem_cons_of_mem _ hd, ez⟩
/-- these values are tuples of these texts -/
inductive Gs (K : PySem.W.Frag) (H : Hp) : List V → List (List Str) → Prop where
  | nil : Gs K H [] []
  | cons {p : Addr} {g : List Str} {vs : List V} {gs : List (List Str)} : SqT K H p (g.map V.str) → Gs K H vs gs → Gs K H (.ref p :: vs) (g :: gs)
def GapsAt (K : PySem.W.Frag) (H : Hp) (a : Addr) (gs : List (List Str)) : Prop := ∃ vs, SqT K H a vs ∧ Gs K H vs gs
theorem Gs.mono {K : PySem.W.Frag} {H H' : Hp} (t : Tk K H H') {vs : List V} {gs : List (List Str)} (h : Gs K H vs gs) : Gs K H' vs gs := by
  induction h with
  | nil => exact .nil
  | cons a _ ih => exact .cons (t _ _ a) ih
theorem Gs.len {K : PySem.W.Frag} {H : Hp} {vs : List V} {gs : List (List Str)} (h : Gs K H vs gs) : vs.length = gs.length := by
  induction h with
  | nil => rfl
  | cons _ _ ih => simp [ih]
theorem Gs.snoc {K : PySem.W.Frag} {H : Hp} {vs : List V} {gs : List (List Str)} {p : Addr} {g : List Str} (h : Gs K H vs gs) (hp : SqT K H p (g.map V.str)) : Gs K H (vs ++ [.ref p]) (gs ++ [g]) := by
  induction h with
  | nil => exact .cons hp .nil
  | cons a _ ih => exact .cons a ih
abbrev gdata (gs : List (List Str)) : List PyData := gs.map fun g => .tuple (g.map PyData.str)
theorem Gs.dp {K : PySem.W.Frag} {H : Hp} {vs : List V} {gs : List (List Str)} (h : Gs K H vs gs) : DpAll K H vs (gdata gs) := by
  induction h with
  | nil => exact .nil
  | cons a _ ih => exact .cons (.tup a (strs_dp _)) ih
theorem gdata_lay : ∀ gs : List (List Str), (∀ g ∈ gs, ∀ z ∈ g, PyData.strOk z = true) → PyData.canLayAll0 (gdata gs) = true
  | [], _ => by simp [PyData.canLayAll0]
  | g :: gs, h => by
    have h1 := strs_lay g (h g (List.mem_cons_self ..))
    have h2 := gdata_lay gs fun y hy => h y (List.mem_cons_of_mem _ hy)
    simp [PyData.canLayAll0, PyData.canLay0, h1] at h2 ⊢
    exact h2
theorem gdata_depth : ∀ gs : List (List Str), PyData.depthAll (gdata gs) ≤ 1
  | [] => by simp [PyData.depthAll]
  | g :: gs => by
    have h2 := gdata_depth gs
    have h3 := strs_depth g
    simp only [gdata, List.map_cons, PyData.depthAll, PyData.depth] at h2 ⊢
    omega
theorem o_eqGaps {K : PySem.W.Frag} {H : Hp} {Q : VK} {a b : Addr} {gs : List (List Str)} (h1 : GapsAt K H a gs) (h2 : GapsAt K H b gs) (hn : ∀ g ∈ gs, ∀ z ∈ g, PyData.strOk z = true) (q : Q (.bl true) H) : rEqB K (.ref a) (.ref b) H Q := by
  obtain ⟨v1, s1, g1⟩ := h1
  obtain ⟨v2, s2, g2⟩ := h2
  have hl : PyData.canLay0 (.tuple (gdata gs)) = true := by rw [PyData.canLay0]; exact gdata_lay gs hn
  have e := SeqAt.eqv_refl _ hl
  have := gdata_depth gs
  refine ⟨_, _, .tup s1 g1.dp, .tup s2 g2.dp, hl, hl, ?_, by rw [e]; exact q⟩
  simp only [PyData.depth]; omega
theorem o_inT {K : PySem.W.Frag} {H : Hp} {Q : VK} {t : Addr} {n : Str} {zs : List Str} (ht : SqT K H t (zs.map V.str)) (q : Q (.bl (decide (n ∈ zs))) H) : rIn K false (.str n) (.ref t) H Q := by
  refine ⟨t, _, rfl, .inr ht, rfl, flat_strs zs, ?_⟩
  simp only [Bool.false_eq_true, if_false]
  rw [inV_str]; exact q
def sp_are_unlike_names (K : PySem.W.Frag) : Sp := fun vs H Q _ => ∃ (t : Addr) (zs : List Str), vs = [.ref t] ∧ SqT K H t (zs.map V.str) ∧ zs.Nodup ∧ (∀ z ∈ zs, IsName z) ∧ zs.length ≤ 1000 ∧ ∀ H', Kp H H' → Q (.bl true) H'
def sp_u_check_names (K : PySem.W.Frag) : Sp := fun vs H Q _ => ∃ (a t : Addr) (f : Fo) (zs : List Str), vs = [.ref a, .ref t] ∧ WoodAt K H a f ∧ NameOk f ∧ SqT K H t (zs.map V.str) ∧ zs.Nodup ∧ (∀ z ∈ zs, z ∈ f.nm) ∧ ∀ H', Kp H H' → Q .non H'
def sp_skeleton_of (K : PySem.W.Frag) : Sp := fun vs H Q _ => ∃ (a t : Addr) (f : Fo) (zs : List Str), vs = [.ref a, .ref t] ∧ WoodAt K H a f ∧ NameOk f ∧ SqT K H t (zs.map V.str) ∧ zs.Nodup ∧ (∀ z ∈ zs, z ∈ f.nm) ∧ ∀ p H', Kp H H' → WoodAt K H' p (f.skel zs) → Q (.ref p) H'
def sp_gaps_of (K : PySem.W.Frag) : Sp := fun vs H Q _ => ∃ (a t : Addr) (f : Fo) (zs : List Str), vs = [.ref a, .ref t] ∧ WoodAt K H a f ∧ NameOk f ∧ SqT K H t (zs.map V.str) ∧ zs.Nodup ∧ (∀ z ∈ zs, z ∈ f.nm) ∧ ∀ p H', Kp H H' → GapsAt K H' p (gapL zs f.erow []) → Q (.ref p) H'
def t_are_unlike_names (K : PySem.W.Frag) : TS :=
  (tSeq (tIfS (tOr (tNot (tB (tIsi K "tuple" (tVar 0)))) (tNot (tB (tCB (rAll K) (tCons (tLc (iTup K (tVar 0)) (gName 1) tYes (tCall (sp_is_name K) [] E0 (tCons (tVar 1) tNil)) [1]) tNil))))) (tRet (tC (.bl false))) tNext)
  (tRet (tOp rEq (tLenSetT K (tVar 0)) (tCB (rLenSeq K) (tCons (tVar 0) tNil)))))
def t_u_check_names (K : PySem.W.Frag) : TS :=
  (tSeq (tIfS (tNot (tB (tCall (sp_are_unlike_names K) [] E0 (tCons (tVar 1) tNil)))) tNever tNext)
  (tDrop (tCall (sp_u_check_there K) [] E0 (tCons (tCall (sp_parents_of K) [] E0 (tCons (tVar 0) tNil)) (tCons (tVar 1) tNil)))))
def t_skeleton_of (K : PySem.W.Frag) : TS :=
  (tSeq (tDrop (tCall (sp_u_check_names K) [] E0 (tCons (tVar 0) (tCons (tVar 1) tNil))))
  (tRet (tCall (sp_unchecked_wood K) [] E0 (tCons (tLc (iTup K (tCall (sp_row_of K) [] E0 (tCons (tVar 0) tNil))) (gName 2) (tTest (tOp (rIn K false) (L2.tSl rSlS (tVar 2) (tPart (tC (.int 1))) tNoPart) (tVar 1))) (tVar 2) [2]) tNil))))
def t_gaps_of_b1 (K : PySem.W.Frag) : TS :=
  (tIfS (tTest (tOp (rIn K false) (L2.tSl rSlS (tVar 4) (tPart (tC (.int 1))) tNoPart) (tVar 1))) (tSeq (tDrop (tBM K "list" rAppend (tVar 2) (tCons (tCB (rTupleOf K) (tCons (tVar 3) tNil)) tNil)))
  (tAsg (tLst tNil) (gName 3))) (tDrop (tBM K "list" rAppend (tVar 3) (tCons (tVar 4) tNil))))
def t_gaps_of (K : PySem.W.Frag) : TS :=
  (tSeq (tDrop (tCall (sp_u_check_names K) [] E0 (tCons (tVar 0) (tCons (tVar 1) tNil))))
  (tSeq (tAsg (tLst tNil) (gName 2))
  (tSeq (tAsg (tLst tNil) (gName 3))
  (tSeq (tFor (iTup K (tCall (sp_row_of K) [] E0 (tCons (tVar 0) tNil))) (gName 4)
  (t_gaps_of_b1 K))
  (tSeq (tDrop (tBM K "list" rAppend (tVar 2) (tCons (tCB (rTupleOf K) (tCons (tVar 3) tNil)) tNil)))
  (tRet (tCB (rTupleOf K) (tCons (tVar 2) tNil))))))))
theorem o_lenSetT {K : PySem.W.Frag} {ta : TE} {σ : L2.St} {H : Hp} {Q : VK} : tLenSetT K ta σ H Q = ta σ H fun x H1 => ∃ (l : Addr) (xs : List Str), x = .ref l ∧ SqT K H1 l (xs.map V.str) ∧ xs.length < 4000 ∧ Q (.int (dcnt xs xs.length : Nat)) H1 := rfl
section
variable {K : PySem.W.Frag}
theorem len_are_unlike_names (vs : List V) (H : Hp) (Q : VK) (E : XK) (h : sp_are_unlike_names K vs H Q E) : vs.length = 1 := by
  obtain ⟨_, _, rfl, _⟩ := h; rfl
theorem len_u_check_names (vs : List V) (H : Hp) (Q : VK) (E : XK) (h : sp_u_check_names K vs H Q E) : vs.length = 2 := by
  obtain ⟨_, _, _, _, rfl, _⟩ := h; rfl
theorem len_skeleton_of (vs : List V) (H : Hp) (Q : VK) (E : XK) (h : sp_skeleton_of K vs H Q E) : vs.length = 2 := by
  obtain ⟨_, _, _, _, rfl, _⟩ := h; rfl
theorem len_gaps_of (vs : List V) (H : Hp) (Q : VK) (E : XK) (h : sp_gaps_of K vs H Q E) : vs.length = 2 := by
  obtain ⟨_, _, _, _, rfl, _⟩ := h; rfl
theorem pure_are_unlike_names (vs : List V) (H : Hp) (Q : VK) (E : XK) (h : sp_are_unlike_names K vs H Q E) : t_are_unlike_names K { nx := fun _ H' => Q .non H', rt := Q } (startN 2 vs) H := by
  obtain ⟨t, zs, rfl, ht, nd, hn, hl, q⟩ := h
  show t_are_unlike_names K _ [some (.ref t), none] H
  unfold t_are_unlike_names
  have hz := sizeLine_eq
  walk_at "rd"
  refine o_isiT ht ?_
  walk_at "rd"
  simp only [Bool.not_true, Bool.false_eq_true, if_false]
  refine ⟨⟨_, ht⟩, ?_⟩
  refine lb_walk (n := (zs.map V.str).length) walk_tup (fun D i H2 => H D = none ∧ Kp H H2 ∧ H2 D = some (.lst ((List.replicate i true).map V.bl))) ?_ ?_ ?_ ?_
  · intro D hD
    exact ⟨hD, (show Kp H H from fun _ _ h => h).new hD, by rw [upd_same]; rfl⟩
  · rintro D i H2 hi ⟨hD, k2, _⟩
    exact Tk.kp k2 _ _ ht
  · rintro D i x H2 H3 hi ⟨hD, k2, h2⟩ ⟨rfl, hx⟩
    rw [List.getElem?_map, Option.map_eq_some_iff] at hx
    obtain ⟨z, hz2, rfl⟩ := hx
    have hi2 := (List.getElem?_eq_some_iff.mp hz2).1
    have hzn := hn z (List.mem_of_getElem? hz2)
    have h8 := hzn.eight
    show gName 1 (.str z) _ _ _
    walk_at "rd"
    refine ⟨_, rfl, .inl ⟨z, rfl, by omega, ?_⟩⟩
    rw [nameB_of hzn]
    refine ⟨_, h2, by rw [List.length_map, List.length_replicate]; omega, hD, fun b o e => ?_, ?_⟩
    · rw [upd_ne (ne_of_none e hD)]; exact k2 _ _ e
    · rw [upd_same, List.replicate_succ']; simp
  · rintro D H2 hD ⟨_, k2, h2⟩
    refine ⟨D, _, rfl, SqL.of h2, ?_⟩
    have e : (List.replicate (zs.map V.str).length true).all id = true := by simp
    rw [e]
    walk_at "rd"
    simp only [Bool.not_true, Bool.false_eq_true, if_false]
    rw [o_lenSetT]
    walk_at "rd"
    refine ⟨t, zs, rfl, Tk.kp k2 _ _ ht, by omega, ?_⟩
    refine ⟨t, _, rfl, .inr (Tk.kp k2 _ _ ht), rfl, ?_⟩
    rw [dcnt_nodup nd _ (Nat.le_refl _), List.length_map]
    simpa using q H2 k2
theorem pure_u_check_names (vs : List V) (H : Hp) (Q : VK) (E : XK) (h : sp_u_check_names K vs H Q E) : t_u_check_names K { nx := fun _ H' => Q .non H', rt := Q } (startN 2 vs) H := by
  obtain ⟨a, t, f, zs, rfl, ha, hf, ht, nd, hin, q⟩ := h
  show t_u_check_names K _ [some (.ref a), some (.ref t)] H
  unfold t_u_check_names
  walk_at "rd"
  have hl : zs.length ≤ 1000 := by
    have := hf.sz
    have := nd.length_le_of_subset (l₂ := f.nm) fun z hz => hin z hz
    omega
  refine ⟨t, zs, rfl, ht, nd, fun z hz => hf.nms z (hin z hz), hl, fun H1 k1 => ?_⟩
  walk_at "rd"
  simp only [Bool.not_true, Bool.false_eq_true, if_false]
  refine ⟨a, f, rfl, ha.mono (Tk.kp k1), hf, fun d H2 k2 _ hd => ?_⟩
  exact ⟨d, t, _, zs, rfl, hd, Tk.kp k2 _ _ (Tk.kp k1 _ _ ht), fun z hz => by rw [pars_nm]; exact hin z hz, q H2 fun b o e => k2 _ _ (k1 _ _ e)⟩
theorem pure_skeleton_of (vs : List V) (H : Hp) (Q : VK) (E : XK) (h : sp_skeleton_of K vs H Q E) : t_skeleton_of K { nx := fun _ H' => Q .non H', rt := Q } (startN 3 vs) H := by
  obtain ⟨a, t, f, zs, rfl, ha, hf, ht, nd, hin, q⟩ := h
  show t_skeleton_of K _ [some (.ref a), some (.ref t), none] H
  unfold t_skeleton_of
  have hz := sizeLine_eq
  have hsz := hf.sz
  walk_at "rd"
  refine ⟨a, t, f, zs, rfl, ha, hf, ht, nd, hin, fun H1 k1 => ?_⟩
  refine ⟨a, f, rfl, ha.mono (Tk.kp k1), hsz, hf.short, fun p H2 k2 hr => ?_⟩
  walk_at "rd"
  refine ⟨⟨_, hr⟩, ?_⟩
  have hlen : f.erow.length = 2 * f.nm.length := by rw [← row_len f, Fo.row_erow, List.length_map]
  rw [Fo.row_erow, List.map_map] at hr
  have ht2 := Tk.kp k2 _ _ (Tk.kp k1 _ _ ht)
  refine lb_walk (n := (f.erow.map (V.str ∘ en)).length) walk_tup (fun D i H3 => H2 D = none ∧ Kp H2 H3 ∧ H3 D = some (.lst ((((f.erow.take i).filter fun e => decide (e.2 ∈ zs)).map en).map V.str))) ?_ ?_ ?_ ?_
  · intro D hD
    exact ⟨hD, (show Kp H2 H2 from fun _ _ h => h).new hD, by rw [upd_same]; rfl⟩
  · rintro D i H3 hi ⟨hD, k3, _⟩
    exact Tk.kp k3 _ _ hr
  · rintro D i x H3 H4 hi ⟨hD, k3, h3⟩ ⟨rfl, hx⟩
    rw [List.getElem?_map, Option.map_eq_some_iff] at hx
    obtain ⟨e, he, rfl⟩ := hx
    have hi2 := (List.getElem?_eq_some_iff.mp he).1
    have hie : IsName e.2 := hf.nms _ (erow_nm f e (List.mem_of_getElem? he))
    have h8 := hie.eight
    have hle : ((f.erow.take i).filter fun e => decide (e.2 ∈ zs)).length ≤ 2000 := by
      have := List.length_filter_le (fun e : En => decide (e.2 ∈ zs)) (f.erow.take i)
      rw [List.length_take] at this; omega
    show gName 2 (.str (en e)) _ _ _
    walk_at "rd"
    refine ⟨en e, rfl, by rw [en_len]; omega, ?_⟩
    rw [en_cut1]
    refine o_inT (Tk.kp k3 _ _ ht2) ?_
    walk_at "rd"
    rw [List.take_add_one, he, List.filter_append]
    refine ite2 (fun hc => ?_) fun hc => ?_
    · refine ⟨_, h3, by rw [List.length_map, List.length_map]; omega, hD, fun b o e => ?_, ?_⟩
      · rw [upd_ne (ne_of_none e hD)]; exact k3 _ _ e
      · have hc2 : e.2 ∈ zs := of_decide_eq_true hc
        rw [upd_same]; simp [hc2]
    · refine ⟨hD, k3, ?_⟩
      have hc2 : e.2 ∉ zs := fun h => hc (decide_eq_true h)
      rw [h3]; simp [hc2]
  · rintro D H3 hD ⟨_, k3, h3⟩
    rw [List.length_map, List.take_length, ← Fo.erow_skel, ← Fo.row_erow] at h3
    exact ⟨D, f.skel zs, rfl, .inl (SqL.of h3), hf.skel zs, fun p H4 k4 hw => q p H4 (fun b o e => k4 _ _ (k3 _ _ (k2 _ _ (k1 _ _ e)))) hw⟩
/-- the loop of gaps_of: what comes is what is done and what comes yet -/
theorem pure_gaps_of (vs : List V) (H : Hp) (Q : VK) (E : XK) (h : sp_gaps_of K vs H Q E) : t_gaps_of K { nx := fun _ H' => Q .non H', rt := Q } (startN 5 vs) H := by
  obtain ⟨a, t, f, zs, rfl, ha, hf, ht, nd, hin, q⟩ := h
  show t_gaps_of K _ [some (.ref a), some (.ref t), none, none, none] H
  unfold t_gaps_of
  have hz := sizeLine_eq
  have hsz := hf.sz
  walk_at "rd"
  refine ⟨a, t, f, zs, rfl, ha, hf, ht, nd, hin, fun H1 k1 => ?_⟩
  refine ⟨Nat.zero_le _, fun gn hgn => ?_⟩
  generalize hG : upd H1 gn _ = H2
  obtain ⟨k2, e2⟩ := gen_new hgn hG
  clear hG
  refine ⟨Nat.zero_le _, fun cn hcn => ?_⟩
  generalize hG : upd H2 cn _ = H3
  obtain ⟨k3, e3⟩ := gen_new hcn hG
  clear hG
  have k03 : Kp H H3 := fun b o e => k3 _ _ (k2 _ _ (k1 _ _ e))
  refine ⟨a, f, rfl, ha.mono (Tk.kp k03), hsz, hf.short, fun p H4 k4 hr => ?_⟩
  walk_at "rd"
  refine ⟨⟨_, hr⟩, ?_⟩
  have k04 : Kp H H4 := fun b o e => k4 _ _ (k03 _ _ e)
  have gnH : H gn = none := Kp.free k1 hgn
  have gncn : gn ≠ cn := ne_of_none e2 hcn
  have cnH : H cn = none := Kp.free (fun b o e => k2 _ _ (k1 _ _ e)) hcn
  have hlen : f.erow.length = 2 * f.nm.length := by rw [← row_len f, Fo.row_erow, List.length_map]
  rw [Fo.row_erow, List.map_map] at hr
  have ht4 := Tk.kp k04 _ _ ht
  refine fb_tup (xs := f.erow.map (V.str ∘ en)) (fun i σ H5 => ∃ cl gs ws cur x, Kp H H5 ∧ Tk K H4 H5 ∧ gn ≠ cl ∧ H cl = none ∧ H5 gn = some (.lst ws) ∧ Gs K H5 ws gs ∧ H5 cl = some (.lst (cur.map V.str)) ∧ gs ++ gapL zs (f.erow.drop i) cur = gapL zs f.erow [] ∧ gs.length ≤ i ∧ cur.length ≤ i ∧ i ≤ f.erow.length ∧
    σ = [some (.ref a), some (.ref t), some (.ref gn), some (.ref cl), x]) ?_ ?_ ?_ ?_
  · exact ⟨cn, [], [], [], _, k04, Tk.refl, gncn, cnH, k4 _ _ (k3 _ _ e2), .nil, k4 _ _ e3, rfl, Nat.le_refl _, Nat.le_refl _, Nat.zero_le _, rfl⟩
  · rintro i σ H5 _ ⟨cl, gs, ws, cur, x, k5, t5, _⟩
    exact t5 _ _ hr
  · rintro i v σ H5 hx ⟨cl, gs, ws, cur, x, k5, t5, gc, clH, hg5, gs5, hc5, heq, hgl, hcl, hi, rfl⟩
    rw [List.getElem?_map, Option.map_eq_some_iff] at hx
    obtain ⟨e, he, rfl⟩ := hx
    rw [drop_at he] at heq
    have hi2 := (List.getElem?_eq_some_iff.mp he).1
    have hie : IsName e.2 := hf.nms _ (erow_nm f e (List.mem_of_getElem? he))
    have h8 := hie.eight
    unfold t_gaps_of_b1
    walk_at "rd"
    refine ⟨en e, rfl, by rw [en_len]; omega, ?_⟩
    rw [en_cut1]
    refine o_inT (t5 _ _ ht4) ?_
    walk_at "rd"
    refine ite2 (fun hc => ?_) fun hc => ?_
    · have hc2 : e.2 ∈ zs := of_decide_eq_true hc
      rw [gapL_cons, if_pos hc2] at heq
      refine ⟨.inl ⟨rfl, _, SqL.of hg5⟩, cl, _, rfl, .inl ⟨SqL.of hc5, fun q1 hq1 => ?_⟩⟩
      generalize hG : upd H5 q1 _ = H6
      obtain ⟨k6, e6⟩ := gen_new hq1 hG
      clear hG
      have hg6 := k6 _ _ hg5
      refine ⟨gn, _, _, rfl, rfl, hg6, by rw [gs5.len]; omega, ?_⟩
      generalize hG : upd H6 gn _ = H7
      obtain ⟨k7, e7⟩ := gen_chg hG
      clear hG
      refine ⟨Nat.zero_le _, fun c2 hc2n => ?_⟩
      generalize hG : upd H7 c2 _ = H8
      obtain ⟨k8, e8⟩ := gen_new hc2n hG
      clear hG
      have t57 : Tk K H5 H7 := (Tk.kp k6).trans (Tk.but (.inl ⟨_, hg6⟩) k7)
      have t67 : Tk K H6 H7 := Tk.but (.inl ⟨_, hg6⟩) k7
      have k57 : Kp H H7 := fun b o e => k7 _ _ (k6 _ _ (k5 _ _ e)) (ne_of_none e gnH)
      refine ⟨c2, gs ++ [cur], _, [], _, fun b o e => k8 _ _ (k57 _ _ e), (t5.trans t57).trans (Tk.kp k8), ne_of_none e7 hc2n, Kp.free k57 hc2n, k8 _ _ e7, ((gs5.mono t57).snoc (t67 _ _ (SqT.of e6))).mono (Tk.kp k8), e8, ?_, by rw [List.length_append, List.length_singleton]; omega, Nat.zero_le _, by omega, rfl⟩
      rw [List.append_assoc]; exact heq
    · have hc2 : e.2 ∉ zs := fun h => hc (decide_eq_true h)
      rw [gapL_cons, if_neg hc2] at heq
      refine ⟨.inl ⟨rfl, _, SqL.of hc5⟩, cl, _, _, rfl, rfl, hc5, by rw [List.length_map]; omega, ?_⟩
      generalize hG : upd H5 cl _ = H6
      obtain ⟨k6, e6⟩ := gen_chg hG
      clear hG
      have t56 : Tk K H5 H6 := Tk.but (.inl ⟨_, hc5⟩) k6
      exact ⟨cl, gs, ws, cur ++ [en e], _, fun b o e => k6 _ _ (k5 _ _ e) (ne_of_none e clH), t5.trans t56, gc, clH, k6 _ _ hg5 gc, gs5.mono t56, by rw [e6]; simp, heq, by omega, by rw [List.length_append, List.length_singleton]; omega, by omega, rfl⟩
  · rintro σ H5 ⟨cl, gs, ws, cur, x, k5, t5, gc, clH, hg5, gs5, hc5, heq, hgl, hcl, hi, rfl⟩
    rw [List.length_map] at heq hgl hcl
    rw [List.drop_length] at heq
    walk_at "rd"
    refine ⟨.inl ⟨rfl, _, SqL.of hg5⟩, cl, _, rfl, .inl ⟨SqL.of hc5, fun q1 hq1 => ?_⟩⟩
    generalize hG : upd H5 q1 _ = H6
    obtain ⟨k6, e6⟩ := gen_new hq1 hG
    clear hG
    have hg6 := k6 _ _ hg5
    refine ⟨gn, _, _, rfl, rfl, hg6, by rw [gs5.len]; omega, ?_⟩
    generalize hG : upd H6 gn _ = H7
    obtain ⟨k7, e7⟩ := gen_chg hG
    clear hG
    have t67 : Tk K H6 H7 := Tk.but (.inl ⟨_, hg6⟩) k7
    refine ⟨gn, _, rfl, .inl ⟨SqL.of e7, fun q2 hq2 => ?_⟩⟩
    generalize hG : upd H7 q2 _ = H8
    obtain ⟨k8, e8⟩ := gen_new hq2 hG
    clear hG
    refine q q2 H8 (fun b o e => k8 _ _ (k7 _ _ (k6 _ _ (k5 _ _ e)) (ne_of_none e gnH))) ⟨_, SqT.of e8, ?_⟩
    rw [← heq]
    exact ((gs5.mono ((Tk.kp k6).trans t67)).snoc (t67 _ _ (SqT.of e6))).mono (Tk.kp k8)
end
end Tw
set_option Elab.async false
set_option linter.all false
set_option maxRecDepth 100000
set_option maxHeartbeats 4000000
/-! deeds as the laws draw them -/
namespace Tw
open PySem PySem.Spec PyProof.Rows L2 TL
local macro_rules | `(tactic| walk_at "rd") => `(tactic| try simp only [o_op, o_un, o_var, o_c, o_cb, o_call, o_cons, o_nil, o_tup, o_lst, o_I0, o_I, o_int1, o_intb, o_abs, o_test, o_b, o_not, o_and, o_or, o_andV, o_orV, o_notV, o_ifE, o_isN, o_notN, o_eq, o_ne, o_seq, o_next, o_asg, o_name, o_sub, o_par, o_par3, o_drop, o_ret, o_retN, o_ifS, o_sl, o_noPart, o_part, o_bm, o_bm0, o_m0, o_m1, o_dget, o_dput, o_din, o_dnotin, o_listKeys, e_bl, e_int, e_str, e_some, e_two, e_three, o_for, o_lc, o_iList, o_iTup, o_iRng1, e_int1, e_ref, o_yes, o_wipe0, o_wipe1, o_disp, o_dnew, o_pairs0, o_pairs1, o_lock, o_keysM, o_gtup, o_gcons, o_gnil, o_rU, o_tru, o_revT, o_enumT, o_from, true_and, if_pos, List.getElem?_cons_zero, List.getElem?_cons_succ, List.set_cons_zero, List.set_cons_succ, List.append_nil])
section
variable {X : Cx} {CX : CXT} {k : Nat} {sp : Sp} {E : XK} {x : Str} {p pos : Pos}
/-- a def of the text without arguments, called -/
theorem pe_cal0 (c : Cal X.prog X.w X.K X.mg X.base CX x [] k sp) (hr : Room k X.A) (hg : Gl X x) (hx : Passes CX X E) (hdb : (x == ("__debug__" : Str)) = false := by decide) : PE X (.Call (.Name x p) [] [] pos) (tCall sp [] E tNil) := by
  obtain ⟨f, fd, F, g, kp, b⟩ := c
  exact pe_call0 F hr hg g kp b .nil hx hdb
end
/-- the thirteen words -/
def words : List Str := ["first", "last", "ahead", "behind", "front", "back", "swap", "turn", "lift", "cut", "pour", "wrap", "put"]
def words1 : List Str := ["front", "back", "lift", "cut"]
theorem words_len : words.length = 13 := rfl
/-- a deed: its word, its names -/
structure Deed where
  word : Str
  names : List Str
/-- as many names as the word wants -/
structure Deed.Ok (d : Deed) (zs : List Str) : Prop where
  word : d.word ∈ words
  many : d.names.length = if d.word ∈ words1 then 1 else 2
  nms : ∀ n ∈ d.names, n ∈ zs
/-- the tuple at a is the deed -/
def DeedAt (K : PySem.W.Frag) (H : Hp) (a : Addr) (d : Deed) : Prop := SqT K H a (.str d.word :: d.names.map V.str)
def sp_l_words (_ : PySem.W.Frag) : Sp := fun vs H Q _ => vs = [] ∧ ∀ p H', Kp H H' → H p = none → H' p = some (.lst (words.map V.str)) → Q (.ref p) H'
def sp_l_some_deed (K : PySem.W.Frag) : Sp := fun vs H Q _ => ∃ (a l : Addr) (zs : List Str), vs = [.ref a, .ref l] ∧ DeckAt H a ∧ H l = some (.lst (zs.map V.str)) ∧ l ≠ a ∧ zs ≠ [] ∧ zs.length ≤ 1000 ∧
  ∀ (p : Addr) (d : Deed) (H' : Hp), Dk a H H' → DeedAt K H' p d → d.Ok zs → Q (.ref p) H'
def t_l_words (K : PySem.W.Frag) : TS :=
  (tSeq (tAsg (tLst (tCons (tC (.str "first")) (tCons (tC (.str "last")) (tCons (tC (.str "ahead")) (tCons (tC (.str "behind")) (tCons (tC (.str "front")) (tCons (tC (.str "back")) (tCons (tC (.str "swap")) tNil)))))))) (gName 0))
  (tRet (tOp rCat (tVar 0) (tLst (tCons (tC (.str "turn")) (tCons (tC (.str "lift")) (tCons (tC (.str "cut")) (tCons (tC (.str "pour")) (tCons (tC (.str "wrap")) (tCons (tC (.str "put")) tNil))))))))))
def t_l_some_deed (K : PySem.W.Frag) : TS :=
  (tSeq (tAsg (tCall (sp_l_pick K) [] E0 (tCons (tVar 0) (tCons (tCall (sp_l_words K) [] E0 tNil) tNil))) (gName 2))
  (tSeq (tIfS (tTest (tOp (rIn K false) (tVar 2) (tTup (tCons (tC (.str "front")) (tCons (tC (.str "back")) (tCons (tC (.str "lift")) (tCons (tC (.str "cut")) tNil))))))) (tRet (tTup (tCons (tVar 2) (tCons (tCall (sp_l_pick K) [] E0 (tCons (tVar 0) (tCons (tVar 1) tNil))) tNil)))) tNext)
  (tRet (tTup (tCons (tVar 2) (tCons (tCall (sp_l_pick K) [] E0 (tCons (tVar 0) (tCons (tVar 1) tNil))) (tCons (tCall (sp_l_pick K) [] E0 (tCons (tVar 0) (tCons (tVar 1) tNil))) tNil)))))))
section
variable {K : PySem.W.Frag}
theorem len_l_words (vs : List V) (H : Hp) (Q : VK) (E : XK) (h : sp_l_words K vs H Q E) : vs.length = 0 := by
  obtain ⟨rfl, _⟩ := h; rfl
theorem len_l_some_deed (vs : List V) (H : Hp) (Q : VK) (E : XK) (h : sp_l_some_deed K vs H Q E) : vs.length = 2 := by
  obtain ⟨_, _, _, rfl, _⟩ := h; rfl
theorem pure_l_words (vs : List V) (H : Hp) (Q : VK) (E : XK) (h : sp_l_words K vs H Q E) : t_l_words K { nx := fun _ H' => Q .non H', rt := Q } (startN 1 vs) H := by
  obtain ⟨rfl, q⟩ := h
  show t_l_words K _ [none] H
  unfold t_l_words
  have hz := sizeLine_eq
  walk_at "rd"
  refine ⟨by show 7 ≤ sizeLine; omega, fun p1 hp1 => ?_⟩
  generalize hG : upd H p1 _ = H1
  obtain ⟨k1, e1⟩ := gen_new hp1 hG
  clear hG
  walk_at "rd"
  refine ⟨by show 6 ≤ sizeLine; omega, fun p2 hp2 => ?_⟩
  generalize hG : upd H1 p2 _ = H2
  obtain ⟨k2, e2⟩ := gen_new hp2 hG
  clear hG
  refine ⟨p1, p2, _, _, rfl, rfl, k2 _ _ e1, e2, by show 7 + 6 ≤ sizeLine; omega, fun p3 hp3 => ?_⟩
  generalize hG : upd H2 p3 _ = H3
  obtain ⟨k3, e3⟩ := gen_new hp3 hG
  clear hG
  exact q p3 H3 (fun b o e => k3 _ _ (k2 _ _ (k1 _ _ e))) (Kp.free (fun b o e => k2 _ _ (k1 _ _ e)) hp3) e3
theorem pure_l_some_deed (vs : List V) (H : Hp) (Q : VK) (E : XK) (h : sp_l_some_deed K vs H Q E) : t_l_some_deed K { nx := fun _ H' => Q .non H', rt := Q } (startN 3 vs) H := by
  obtain ⟨a, l, zs, rfl, hd, hl, hla, hne, hsz, q⟩ := h
  show t_l_some_deed K _ [some (.ref a), some (.ref l), none] H
  unfold t_l_some_deed
  have hz := sizeLine_eq
  walk_at "rd"
  refine ⟨rfl, fun p H1 k1 hp h1 => ?_⟩
  have hpa : p ≠ a := deck_ne hd hp
  obtain ⟨x0, y0, z0, hd0⟩ := hd
  refine o_pick ⟨x0, y0, z0, k1 _ _ hd0⟩ h1 hpa (by decide) (by decide) fun w H2 hw k2 => ?_
  walk_at "rd"
  refine ⟨by show 4 ≤ sizeLine; omega, fun p3 hp3 => ?_⟩
  have hp3a : p3 ≠ a := deck_ne k2.deck hp3
  generalize hG : upd H2 p3 _ = H3
  obtain ⟨k3, e3⟩ := gen_new hp3 hG
  clear hG
  obtain ⟨x2, y2, z2, hd2⟩ := k2.deck
  have d03 : Dk a H H3 := ⟨fun b o e nb => k3 _ _ (k2.keep _ _ (k1 _ _ e) nb), x2, y2, z2, k3 _ _ hd2⟩
  have e3' : SqT K H3 p3 (words1.map V.str) := SqT.of e3
  refine o_inT e3' ?_
  walk_at "rd"
  refine ite2 (fun hc => ?_) fun hc => ?_
  · have hc2 : w ∈ words1 := of_decide_eq_true hc
    refine o_pick d03.deck (d03.keep _ _ hl hla) hla hne (by omega) fun n H4 hn k4 => ?_
    refine ⟨by show 2 ≤ sizeLine; omega, fun p5 hp5 => ?_⟩
    generalize hG : upd H4 p5 _ = H5
    obtain ⟨k5, e5⟩ := gen_new hp5 hG
    clear hG
    have d04 := d03.trans k4
    obtain ⟨x4, y4, z4, hd4⟩ := d04.deck
    exact q p5 ⟨w, [n]⟩ H5 ⟨fun b o e nb => k5 _ _ (d04.keep _ _ e nb), x4, y4, z4, k5 _ _ hd4⟩ (SqT.of e5) ⟨hw, by rw [if_pos hc2]; rfl, fun m hm => by rw [List.mem_singleton.mp hm]; exact hn⟩
  · have hc2 : w ∉ words1 := fun h => hc (decide_eq_true h)
    refine o_pick d03.deck (d03.keep _ _ hl hla) hla hne (by omega) fun n H4 hn k4 => ?_
    refine o_pick k4.deck (k4.keep _ _ (d03.keep _ _ hl hla) hla) hla hne (by omega) fun n2 H5 hn2 k5 => ?_
    refine ⟨by show 3 ≤ sizeLine; omega, fun p6 hp6 => ?_⟩
    generalize hG : upd H5 p6 _ = H6
    obtain ⟨k6, e6⟩ := gen_new hp6 hG
    clear hG
    have d05 := (d03.trans k4).trans k5
    obtain ⟨x4, y4, z4, hd5⟩ := d05.deck
    refine q p6 ⟨w, [n, n2]⟩ H6 ⟨fun b o e nb => k6 _ _ (d05.keep _ _ e nb), x4, y4, z4, k6 _ _ hd5⟩ (SqT.of e6) ⟨hw, by rw [if_neg hc2]; rfl, fun m hm => ?_⟩
    rcases List.mem_cons.mp hm with e | hm
    · rw [e]; exact hn
    · rw [List.mem_singleton.mp hm]; exact hn2
end
end Tw
set_option Elab.async false
set_option linter.all false
set_option maxRecDepth 100000
set_option maxHeartbeats 4000000
/-! old and new names of deeds, as the laws tell them -/
namespace Tw
open PySem PySem.Spec PyProof.Rows L2 TL
local macro_rules | `(tactic| walk_at "rd") => `(tactic| try simp only [o_op, o_un, o_var, o_c, o_cb, o_call, o_cons, o_nil, o_tup, o_lst, o_I0, o_I, o_int1, o_intb, o_abs, o_test, o_b, o_not, o_and, o_or, o_andV, o_orV, o_notV, o_ifE, o_isN, o_notN, o_eq, o_ne, o_seq, o_next, o_asg, o_name, o_sub, o_par, o_par3, o_drop, o_ret, o_retN, o_ifS, o_sl, o_noPart, o_part, o_bm, o_bm0, o_m0, o_m1, o_dget, o_dput, o_din, o_dnotin, o_listKeys, e_bl, e_int, e_str, e_some, e_two, e_three, o_for, o_lc, o_iList, o_iTup, o_iRng1, e_int1, e_ref, o_yes, o_wipe0, o_wipe1, o_disp, o_dnew, o_pairs0, o_pairs1, o_lock, o_keysM, o_gtup, o_gcons, o_gnil, o_rU, o_tru, o_revT, o_enumT, o_from, true_and, if_pos, List.getElem?_cons_zero, List.getElem?_cons_succ, List.set_cons_zero, List.set_cons_succ, List.append_nil])
def madeOf (w : Str) : Nat := if w = "wrap" then 2 else if w = "put" then 1 else 0
/-- the names of a deed taken up, from the k-th on -/
def roleNames (made : Nat) : Nat → List Str → List Str × List Str → List Str × List Str
  | _, [], r => r
  | k, n :: ns, r => roleNames made (k + 1) ns (if n ∈ r.1 ++ r.2 then r else if k = made then (r.1, r.2 ++ [n]) else (r.1 ++ [n], r.2))
def roles : List Deed → List Str × List Str → List Str × List Str
  | [], r => r
  | d :: ds, r => roles ds (roleNames (madeOf d.word) 1 d.names r)
/-- these values are the deeds -/
inductive Ds (K : PySem.W.Frag) (H : Hp) : List V → List Deed → Prop where
  | nil : Ds K H [] []
  | cons {p : Addr} {d : Deed} {vs : List V} {ds : List Deed} : DeedAt K H p d → Ds K H vs ds → Ds K H (.ref p :: vs) (d :: ds)
def DeedsAt (K : PySem.W.Frag) (H : Hp) (a : Addr) (ds : List Deed) : Prop := ∃ vs, SqT K H a vs ∧ Ds K H vs ds
theorem Ds.mono {K : PySem.W.Frag} {H H' : Hp} (t : Tk K H H') {vs : List V} {ds : List Deed} (h : Ds K H vs ds) : Ds K H' vs ds := by
  induction h with
  | nil => exact .nil
  | cons a _ ih => exact .cons (t _ _ a) ih
theorem Ds.len {K : PySem.W.Frag} {H : Hp} {vs : List V} {ds : List Deed} (h : Ds K H vs ds) : vs.length = ds.length := by
  induction h with
  | nil => rfl
  | cons _ _ ih => simp [ih]
theorem Ds.at {K : PySem.W.Frag} {H : Hp} : ∀ {i : Nat} {vs : List V} {ds : List Deed} {v : V}, Ds K H vs ds → vs[i]? = some v → ∃ p d, v = .ref p ∧ ds[i]? = some d ∧ DeedAt K H p d
  | _, _, _, _, .nil, h => by simp at h
  | 0, _, _, _, .cons a _, h => ⟨_, _, (Option.some.inj (show some _ = some _ from h)).symm, rfl, a⟩
  | i + 1, _, _, _, .cons _ b, h => by
    obtain ⟨p, d, e, h1, h2⟩ := Ds.at (i := i) b (by simpa using h)
    exact ⟨p, d, e, by simpa using h1, h2⟩
theorem roleNames_len (made : Nat) : ∀ (ns : List Str) (k : Nat) (r : List Str × List Str), (roleNames made k ns r).1.length + (roleNames made k ns r).2.length ≤ r.1.length + r.2.length + ns.length
  | [], _, _ => Nat.le_refl _
  | n :: ns, k, r => by
    unfold roleNames
    refine Nat.le_trans (roleNames_len made ns (k + 1) _) ?_
    rw [List.length_cons]
    split
    · omega
    · split
      · simp only [List.length_append, List.length_cons, List.length_nil]; omega
      · simp only [List.length_append, List.length_cons, List.length_nil]; omega
/-- sorted(xs), texts: what it gives -/
def Asc (ys xs : List Str) : Prop := ys.Perm xs ∧ sortedS ys = true
def sp_l_roles (K : PySem.W.Frag) : Sp := fun vs H Q _ => ∃ (t : Addr) (ds : List Deed), vs = [.ref t] ∧ DeedsAt K H t ds ∧ ds.length ≤ 30 ∧ (∀ d ∈ ds, d.names.length ≤ 2) ∧
  ∀ (p o n : Addr) (ys zs : List Str) (H' : Hp), Kp H H' → SqT K H' p [.ref o, .ref n] → SqT K H' o (ys.map V.str) → SqT K H' n (zs.map V.str) → Asc ys (roles ds ([], [])).1 → Asc zs (roles ds ([], [])).2 → Q (.ref p) H'
def t_l_roles_b1 (K : PySem.W.Frag) : TS :=
  (tIfS (tTest (tOp (rIn K true) (tOp (rIxT K) (tVar 3) (tVar 5)) (tOp rCat (tVar 1) (tVar 2)))) (tIfS (tTest (tOp rEq (tVar 5) (tVar 4))) (tDrop (tBM K "list" rAppend (tVar 2) (tCons (tOp (rIxT K) (tVar 3) (tVar 5)) tNil))) (tDrop (tBM K "list" rAppend (tVar 1) (tCons (tOp (rIxT K) (tVar 3) (tVar 5)) tNil)))) tNext)
def t_l_roles_b2 (K : PySem.W.Frag) : TS :=
  (tSeq (tAsg (tDGet2 (tDisp [((tC (.str "wrap")), (tC (.int 2))), ((tC (.str "put")), (tC (.int 1)))]) (tOp (rIxT K) (tVar 3) (tC (.int 0))) (tC (.int 0))) (gName 4))
  (tFor (iRng2 (tCons (tC (.int 1)) (tCons (tCB (rLenSeq K) (tCons (tVar 3) tNil)) tNil))) (gName 5)
  (t_l_roles_b1 K)))
def t_l_roles (K : PySem.W.Frag) : TS :=
  (tSeq (tPar 1 2 (tCons (tLst tNil) (tCons (tLst tNil) tNil)))
  (tSeq (tFor (iTup K (tVar 0)) (gName 3)
  (t_l_roles_b2 K))
  (tRet (tTup (tCons (tCB (rTupleOf K) (tCons (tCB (rSortedS K) (tCons (tVar 1) tNil)) tNil)) (tCons (tCB (rTupleOf K) (tCons (tCB (rSortedS K) (tCons (tVar 2) tNil)) tNil)) tNil))))))
theorem o_dget2 {td ty tx : TE} {σ : L2.St} {H : Hp} {Q : VK} : tDGet2 td ty tx σ H Q = td σ H fun x H1 => ∃ a, x = .ref a ∧ IsD H1 a ∧ ty σ H1 fun y H2 => tx σ H2 fun z H3 => ∃ o, DGet H3 a y o ∧ Q (o.getD z) H3 := rfl
theorem o_iRng2 {ta : TA} {σ : L2.St} {H : Hp} {R : It → Hp → Prop} : iRng2 ta σ H R = ta σ H fun vs H1 => ∃ i j : Int, vs = [.int i, .int j] ∧ (-(2 ^ 62) ≤ i ∧ i < 2 ^ 62 ∧ -(2 ^ 62) ≤ j ∧ j < 2 ^ 62) ∧ R (Itr i (j - i).toNat) H1 := rfl
section
variable {K : PySem.W.Frag}
theorem len_l_roles (vs : List V) (H : Hp) (Q : VK) (E : XK) (h : sp_l_roles K vs H Q E) : vs.length = 1 := by
  obtain ⟨_, _, rfl, _⟩ := h; rfl
theorem made_get (w : Str) : ((valV (mergeK [] [((Sum.inr ("wrap" : Str) : Key), V.int 2), ((Sum.inr ("put" : Str) : Key), V.int 1)]) (Sum.inr w)).getD (.int 0)) = .int (madeOf w : Nat) := by
  have e : mergeK [] [((Sum.inr ("wrap" : Str) : Key), V.int 2), ((Sum.inr ("put" : Str) : Key), V.int 1)] = [((Sum.inr ("wrap" : Str) : Key), V.int 2), ((Sum.inr ("put" : Str) : Key), V.int 1)] := by
    unfold mergeK
    simp only [List.foldl_cons, List.foldl_nil]
    rw [show putK ([] : List (Key × V)) (Sum.inr ("wrap" : Str)) (V.int 2) = [((Sum.inr ("wrap" : Str) : Key), V.int 2)] from rfl, putK_new _ (by
      rw [valV_neg (fun h => absurd (Sum.inr.inj h) (by decide +kernel)), valV_nil])]
    rfl
  rw [e]
  unfold madeOf
  by_cases h1 : w = "wrap"
  · subst h1; rw [valV_pos rfl, if_pos rfl]; rfl
  · rw [valV_neg (fun h => h1 (Sum.inr.inj h).symm), if_neg h1]
    by_cases h2 : w = "put"
    · subst h2; rw [valV_pos rfl, if_pos rfl]; rfl
    · rw [valV_neg (fun h => h2 (Sum.inr.inj h).symm), if_neg h2, valV_nil]; rfl
theorem o_notinL {H : Hp} {Q : VK} {t : Addr} {n : Str} {zs : List Str} (ht : H t = some (.lst (zs.map V.str))) (q : Q (.bl (!decide (n ∈ zs))) H) : rIn K true (.str n) (.ref t) H Q := by
  refine ⟨t, _, rfl, .inl (SqL.of ht), rfl, flat_strs zs, ?_⟩
  simp only [if_true]
  rw [inV_str]; exact q
theorem pure_l_roles (vs : List V) (H : Hp) (Q : VK) (E : XK) (h : sp_l_roles K vs H Q E) : t_l_roles K { nx := fun _ H' => Q .non H', rt := Q } (startN 6 vs) H := by
  obtain ⟨t, ds, rfl, ⟨ws, ht, hds⟩, hl, h2, q⟩ := h
  show t_l_roles K _ [some (.ref t), none, none, none, none, none] H
  unfold t_l_roles
  have hz := sizeLine_eq
  walk_at "rd"
  refine ⟨Nat.zero_le _, fun on hon => ?_⟩
  generalize hG : upd H on _ = H1
  obtain ⟨k1, e1⟩ := gen_new hon hG
  clear hG
  refine ⟨Nat.zero_le _, fun nn hnn => ?_⟩
  generalize hG : upd H1 nn _ = H2
  obtain ⟨k2, e2⟩ := gen_new hnn hG
  clear hG
  walk_at "rd"
  have k02 : Kp H H2 := fun b o e => k2 _ _ (k1 _ _ e)
  have onnn : on ≠ nn := ne_of_none e1 hnn
  have nnH : H nn = none := Kp.free k1 hnn
  refine ⟨⟨_, Tk.kp k02 _ _ ht⟩, ?_⟩
  refine fb_tup (xs := ws) (fun i σ H3 => ∃ (r : List Str × List Str) (x y z : Option V), Kp H H3 ∧ H3 on = some (.lst (r.1.map V.str)) ∧ H3 nn = some (.lst (r.2.map V.str)) ∧ roles (ds.drop i) r = roles ds ([], []) ∧ r.1.length + r.2.length ≤ 2 * i ∧ i ≤ ds.length ∧ σ = [some (.ref t), some (.ref on), some (.ref nn), x, y, z]) ?_ ?_ ?_ ?_
  · exact ⟨([], []), _, _, _, k02, k2 _ _ e1, e2, rfl, Nat.le_refl _, Nat.zero_le _, rfl⟩
  · rintro i σ H3 _ ⟨r, x, y, z, k3, _⟩
    exact Tk.kp k3 _ _ ht
  · rintro i v σ H3 hx ⟨r, x, y, z, k3, ho3, hn3, heq, hrl, hi, rfl⟩
    obtain ⟨p, d, rfl, hd, hda⟩ := hds.at hx
    rw [drop_at hd] at heq
    have hi2 := (List.getElem?_eq_some_iff.mp hd).1
    have hdn := h2 d (List.mem_of_getElem? hd)
    have hp3 : SqT K H3 p (.str d.word :: d.names.map V.str) := Tk.kp k3 _ _ hda
    unfold t_l_roles_b2
    walk_at "rd"
    rw [o_dget2]
    walk_at "rd"
    intro dn hdnn
    generalize hG : upd H3 dn _ = H4
    obtain ⟨k4, e4⟩ := gen_new hdnn hG
    clear hG
    refine ⟨e4, [((Sum.inr ("wrap" : Str) : Key), V.int 2), ((Sum.inr ("put" : Str) : Key), V.int 1)], rfl, by show 2 ≤ 15; decide, ?_⟩
    generalize hG : upd H4 dn _ = H5
    obtain ⟨k5, e5⟩ := gen_chg hG
    clear hG
    have k35 : Kp H3 H5 := fun b o e => k5 _ _ (k4 _ _ e) (ne_of_none e hdnn)
    walk_at "rd"
    refine ⟨.inl ⟨_, .inl e5⟩, p, _, 0, _, rfl, rfl, Tk.kp k35 _ _ hp3, atI_nat (j := 0) rfl, ?_⟩
    refine ⟨_, DGet.k (k := (Sum.inr d.word : Key)) e5, ?_⟩
    rw [made_get]
    rw [o_iRng2]
    walk_at "rd"
    refine ⟨p, _, rfl, .inr (Tk.kp k35 _ _ hp3), 1, _, rfl, ⟨by decide, by decide, by simp only [List.length_cons, List.length_map]; omega, by simp only [List.length_cons, List.length_map]; omega⟩, ?_⟩
    have hn : (((V.str d.word :: d.names.map V.str).length : Int) - 1).toNat = d.names.length := by simp only [List.length_cons, List.length_map]; omega
    rw [hn]
    refine fb_range (fun j σ H6 => ∃ (r' : List Str × List Str) (z : Option V), Kp H H6 ∧ H6 on = some (.lst (r'.1.map V.str)) ∧ H6 nn = some (.lst (r'.2.map V.str)) ∧ roleNames (madeOf d.word) (1 + j) (d.names.drop j) r' = roleNames (madeOf d.word) 1 d.names r ∧ r'.1.length + r'.2.length ≤ 2 * i + j ∧
      σ = [some (.ref t), some (.ref on), some (.ref nn), some (.ref p), some (.int (madeOf d.word : Nat)), z]) ?_ ?_ ?_
    · exact ⟨r, _, fun b o e => k35 _ _ (k3 _ _ e), k35 _ _ ho3, k35 _ _ hn3, rfl, by omega, rfl⟩
    · rintro j σ H6 hj ⟨r', z, k6, ho6, hn6, heq6, hl6, rfl⟩
      have hnj : d.names[j]? = some d.names[j] := List.getElem?_eq_getElem hj
      generalize hne : d.names[j] = n at hnj
      rw [drop_at hnj] at heq6
      have hp6 : SqT K H6 p (.str d.word :: d.names.map V.str) := Tk.kp k6 _ _ hda
      have hat : atI (V.str d.word :: d.names.map V.str) (1 + (j : Int)) = some (.str n) := by
        rw [show (1 + (j : Int)) = ((j + 1 : Nat) : Int) by omega]
        exact atI_nat (by rw [List.getElem?_cons_succ, List.getElem?_map, hnj]; rfl)
      unfold t_l_roles_b1
      walk_at "rd"
      refine ⟨p, _, _, _, rfl, rfl, hp6, hat, on, nn, _, _, rfl, rfl, ho6, hn6, by rw [List.length_map, List.length_map]; omega, fun q7 hq7 => ?_⟩
      generalize hG : upd H6 q7 _ = H7
      obtain ⟨k7, e7⟩ := gen_new hq7 hG
      clear hG
      rw [← List.map_append] at e7
      refine o_notinL e7 ?_
      walk_at "rd"
      have k07 : Kp H H7 := fun b o e => k7 _ _ (k6 _ _ e)
      have ho7 := k7 _ _ ho6
      have hn7 := k7 _ _ hn6
      have hp7 := Tk.kp k7 _ _ hp6
      have step : roleNames (madeOf d.word) (1 + j) (n :: d.names.drop (j + 1)) r' = roleNames (madeOf d.word) (1 + (j + 1)) (d.names.drop (j + 1)) (if n ∈ r'.1 ++ r'.2 then r' else if 1 + j = madeOf d.word then (r'.1, r'.2 ++ [n]) else (r'.1 ++ [n], r'.2)) := rfl
      rw [step] at heq6
      refine ite2 (fun hc => ?_) fun hc => ?_
      · have hc2 : n ∉ r'.1 ++ r'.2 := by simpa using hc
        rw [if_neg hc2] at heq6
        refine ⟨rfl, ite2 (fun hm => ?_) fun hm => ?_⟩
        · have hm2 : 1 + j = madeOf d.word := by
            have := V.int.inj (of_decide_eq_true hm)
            omega
          rw [if_pos hm2] at heq6
          refine ⟨.inl ⟨rfl, _, SqL.of hn7⟩, p, _, _, _, rfl, rfl, hp7, hat, nn, _, _, rfl, rfl, hn7, by rw [List.length_map]; omega, ?_⟩
          generalize hG : upd H7 nn _ = H8
          obtain ⟨k8, e8⟩ := gen_chg hG
          clear hG
          exact ⟨(r'.1, r'.2 ++ [n]), _, fun b o e => k8 _ _ (k07 _ _ e) (ne_of_none e nnH), k8 _ _ ho7 onnn, by rw [e8]; simp, heq6, by simp only [List.length_append, List.length_cons, List.length_nil]; omega, rfl⟩
        · have hm2 : ¬ 1 + j = madeOf d.word := fun e => hm (decide_eq_true (by congr 1; omega))
          rw [if_neg hm2] at heq6
          refine ⟨.inl ⟨rfl, _, SqL.of ho7⟩, p, _, _, _, rfl, rfl, hp7, hat, on, _, _, rfl, rfl, ho7, by rw [List.length_map]; omega, ?_⟩
          generalize hG : upd H7 on _ = H8
          obtain ⟨k8, e8⟩ := gen_chg hG
          clear hG
          exact ⟨(r'.1 ++ [n], r'.2), _, fun b o e => k8 _ _ (k07 _ _ e) (ne_of_none e hon), by rw [e8]; simp, k8 _ _ hn7 onnn.symm, heq6, by simp only [List.length_append, List.length_cons, List.length_nil]; omega, rfl⟩
      · have hc2 : n ∈ r'.1 ++ r'.2 := by
          cases hdec : decide (n ∈ r'.1 ++ r'.2) with
          | true => exact of_decide_eq_true hdec
          | false => rw [hdec] at hc; exact absurd rfl hc
        rw [if_pos hc2] at heq6
        exact ⟨r', _, k07, ho7, hn7, heq6, by omega, rfl⟩
    · rintro σ H6 ⟨r', z, k6, ho6, hn6, heq6, hl6, rfl⟩
      rw [List.drop_length] at heq6
      have e : r' = roleNames (madeOf d.word) 1 d.names r := heq6
      exact ⟨r', _, _, _, k6, ho6, hn6, by rw [e]; exact heq, by omega, by omega, rfl⟩
  · rintro σ H3 ⟨r, x, y, z, k3, ho3, hn3, heq, hrl, hi, rfl⟩
    rw [hds.len] at heq hrl
    rw [List.drop_length] at heq
    have e : r = roles ds ([], []) := heq
    walk_at "rd"
    refine ⟨on, _, rfl, SqL.of ho3, by omega, fun ys p4 a4 b4 hp4 => ?_⟩
    generalize hG : upd H3 p4 _ = H4
    obtain ⟨k4, e4⟩ := gen_new hp4 hG
    clear hG
    refine ⟨p4, _, rfl, .inl ⟨SqL.of e4, fun p5 hp5 => ?_⟩⟩
    generalize hG : upd H4 p5 _ = H5
    obtain ⟨k5, e5⟩ := gen_new hp5 hG
    clear hG
    have k35 : Kp H3 H5 := fun b o e => k5 _ _ (k4 _ _ e)
    refine ⟨nn, _, rfl, SqL.of (k35 _ _ hn3), by omega, fun zs p6 a6 b6 hp6 => ?_⟩
    generalize hG : upd H5 p6 _ = H6
    obtain ⟨k6, e6⟩ := gen_new hp6 hG
    clear hG
    refine ⟨p6, _, rfl, .inl ⟨SqL.of e6, fun p7 hp7 => ?_⟩⟩
    generalize hG : upd H6 p7 _ = H7
    obtain ⟨k7, e7⟩ := gen_new hp7 hG
    clear hG
    refine ⟨by show 2 ≤ sizeLine; omega, fun p8 hp8 => ?_⟩
    generalize hG : upd H7 p8 _ = H8
    obtain ⟨k8, e8⟩ := gen_new hp8 hG
    clear hG
    rw [e] at a4 a6
    have k58 : Kp H5 H8 := fun b o e => k8 _ _ (k7 _ _ (k6 _ _ e))
    exact q p8 p5 p7 ys zs H8 (fun b o e => k58 _ _ (k35 _ _ (k3 _ _ e))) (SqT.of e8) (SqT.of (k58 _ _ e5)) (SqT.of (k8 _ _ e7)) ⟨a4, b4⟩ ⟨a6, b6⟩
end
end Tw
set_option Elab.async false
set_option linter.all false
set_option maxRecDepth 100000
set_option maxHeartbeats 4000000
/-! scripts as the laws draw them -/
namespace Tw
open PySem PySem.Spec PyProof.Rows L2 TL
local macro_rules | `(tactic| walk_at "rd") => `(tactic| try simp only [o_op, o_un, o_var, o_c, o_cb, o_call, o_cons, o_nil, o_tup, o_lst, o_I0, o_I, o_int1, o_intb, o_abs, o_test, o_b, o_not, o_and, o_or, o_andV, o_orV, o_notV, o_ifE, o_isN, o_notN, o_eq, o_ne, o_seq, o_next, o_asg, o_name, o_sub, o_par, o_par3, o_drop, o_ret, o_retN, o_ifS, o_sl, o_noPart, o_part, o_bm, o_bm0, o_m0, o_m1, o_dget, o_dput, o_din, o_dnotin, o_listKeys, e_bl, e_int, e_str, e_some, e_two, e_three, o_for, o_lc, o_iList, o_iTup, o_iRng1, e_int1, e_ref, o_yes, o_wipe0, o_wipe1, o_disp, o_dnew, o_pairs0, o_pairs1, o_lock, o_keysM, o_gtup, o_gcons, o_gnil, o_rU, o_tru, o_revT, o_enumT, o_from, true_and, if_pos, List.getElem?_cons_zero, List.getElem?_cons_succ, List.set_cons_zero, List.set_cons_succ, List.append_nil])
theorem wrap_in : ("wrap" : Str) ∈ words := by decide +kernel
theorem put_in : ("put" : Str) ∈ words := by decide +kernel
theorem wrap_no : ("wrap" : Str) ∉ words1 := by decide +kernel
theorem put_no : ("put" : Str) ∉ words1 := by decide +kernel
/-- a script by the names zs -/
structure Script (zs : List Str) (ds : List Deed) : Prop where
  ok : ∀ d ∈ ds, d.Ok zs
  old : (roles ds ([], [])).1.length ≤ 4
  new : (roles ds ([], [])).2.length ≤ 3
theorem Deed.Ok.len {d : Deed} {zs : List Str} (h : d.Ok zs) : 1 ≤ d.names.length ∧ d.names.length ≤ 2 := by
  have := h.many
  split at this <;> omega
def sp_l_right_script (K : PySem.W.Frag) : Sp := fun vs H Q _ => ∃ (a ol nl : Addr) (os ns : List Str) (most : Int), vs = [.ref a, .ref ol, .ref nl, .int most] ∧ DeckAt H a ∧ H ol = some (.lst (os.map V.str)) ∧ H nl = some (.lst (ns.map V.str)) ∧ ol ≠ a ∧ nl ≠ a ∧ os ++ ns ≠ [] ∧ os.length ≤ 300 ∧ ns.length ≤ 300 ∧ (∀ z ∈ os ++ ns, IsName z) ∧ 0 ≤ most ∧ most ≤ 28 ∧
  ∀ (p : Addr) (ds : List Deed) (H' : Hp), Dk a H H' → DeedsAt K H' p ds → Script (os ++ ns) ds → (ds.length : Int) ≤ most → Q (.ref p) H'
def t_l_right_script_r1 (K : PySem.W.Frag) : TS :=
  (tSeq (tAsg (tCall (sp_l_roles K) [] E0 (tCons (tOp (rCatA K) (tVar 4) (tTup (tCons (tVar 7) tNil))) tNil)) (gName 9))
  (tIfS (tAnd (tTest (tOp (rI0 fun i j => .bl (decide (i < j))) (tCB (rLenSeq K) (tCons (tOp (rIxT K) (tVar 9) (tC (.int 0))) tNil)) (tC (.int 5)))) (tTest (tOp (rI0 fun i j => .bl (decide (i < j))) (tCB (rLenSeq K) (tCons (tOp (rIxT K) (tVar 9) (tC (.int 1))) tNil)) (tC (.int 4))))) (tAsg (tOp (rCatA K) (tVar 4) (tTup (tCons (tVar 7) tNil))) (gName 4)) tNext))
def t_l_right_script_b1 (K : PySem.W.Frag) : TS :=
  (tSeq (tAsg (tCall (sp_l_some_deed K) [] E0 (tCons (tVar 0) (tCons (tLc (iRng1 (tCons (tC (.int 3)) tNil)) (gName 10) tYes (tCall (sp_l_pick K) [] E0 (tCons (tVar 0) (tCons (tVar 5) tNil))) [10]) tNil))) (gName 7))
  (C8.tCut (tIfS (tAnd (tTest (tOp (rIn K true) (tOp (rIxT K) (tVar 7) (tC (.int 0))) (tTup (tCons (tC (.str "wrap")) (tCons (tC (.str "put")) tNil))))) (tAnd (tTest (tOp rEq (tCall sp_l_draw [] E0 (tCons (tVar 0) (tCons (tC (.int 6)) tNil))) (tC (.int 0)))) (tTest (tOp (rNeB K) (tVar 2) (tLst tNil))))) (tSeq (tAsg (tCall (sp_l_pick K) [] E0 (tCons (tVar 0) (tCons (tVar 2) tNil))) (gName 8))
  (tAsg (tCall (sp_l_pick K) [] E0 (tCons (tVar 0) (tCons (tLst (tCons (tTup (tCons (tC (.str "wrap")) (tCons (tOp (rIxT K) (tVar 7) (tC (.int 1))) (tCons (tVar 8) tNil)))) (tCons (tTup (tCons (tC (.str "put")) (tCons (tVar 8) (tCons (tOp (rIxT K) (tVar 7) (tC (.int 1))) tNil)))) tNil))) tNil))) (gName 7))) tNext)
  (t_l_right_script_r1 K)))
def t_l_right_script (K : PySem.W.Frag) : TS :=
  (tSeq (tAsg (tTup tNil) (gName 4))
  (tSeq (tAsg (tOp rCat (tVar 1) (tVar 2)) (gName 5))
  (tSeq (tFor (iRng1 (tCons (tCall sp_l_draw [] E0 (tCons (tVar 0) (tCons (tOp (rI0 fun i j => .int (i + j)) (tVar 3) (tC (.int 1))) tNil))) tNil)) (gName 6)
  (t_l_right_script_b1 K))
  (tRet (tVar 4)))))
section
variable {K : PySem.W.Frag}
theorem len_l_right_script (vs : List V) (H : Hp) (Q : VK) (E : XK) (h : sp_l_right_script K vs H Q E) : vs.length = 4 := by
  obtain ⟨_, _, _, _, _, _, rfl, _⟩ := h; rfl
theorem Ds.snoc {H : Hp} {vs : List V} {ds : List Deed} {p : Addr} {d : Deed} (h : Ds K H vs ds) (hp : DeedAt K H p d) : Ds K H (vs ++ [.ref p]) (ds ++ [d]) := by
  induction h with
  | nil => exact .cons hp .nil
  | cons a _ ih => exact .cons a ih
theorem o_neStrNil {a b : Addr} {zs : List Str} {H : Hp} {Q : VK} (ha : H a = some (.lst (zs.map V.str))) (hb : H b = some (.lst [])) (hn : ∀ z ∈ zs, IsName z) (q : Q (.bl (!zs.isEmpty)) H) : rNeB K (.ref a) (.ref b) H Q := by
  refine ⟨.list (zs.map PyData.str), .list [], .lst (SqL.of ha) (strs_dp zs), .lst (SqL.of hb) .nil, ?_, by simp [PyData.canLay0, PyData.canLayAll0], ?_, ?_⟩
  · rw [PyData.canLay0]; exact strs_lay zs fun z hz => strOk_of (hn z hz)
  · simp only [PyData.depth, PyData.depthAll]; omega
  · have e : PyData.eqv (.list (zs.map PyData.str)) (.list []) = zs.isEmpty := by
      cases zs with
      | nil => simp [PyData.eqv, PyData.eqvAll]
      | cons _ _ => simp [PyData.eqv, PyData.eqvAll]
    rw [e]; exact q
theorem o_notinT {H : Hp} {Q : VK} {t : Addr} {n : Str} {zs : List Str} (ht : SqT K H t (zs.map V.str)) (q : Q (.bl (!decide (n ∈ zs))) H) : rIn K true (.str n) (.ref t) H Q := by
  refine ⟨t, _, rfl, .inr ht, rfl, flat_strs zs, ?_⟩
  simp only [if_true]
  rw [inV_str]; exact q
/-- what the loop keeps -/
def ScInv (K : PySem.W.Frag) (H : Hp) (a ol nl nh : Addr) (os ns : List Str) (most : Int) (j : Nat) (σ : L2.St) (H3 : Hp) : Prop :=
  ∃ (p : Addr) (ds : List Deed) (x6 x7 x8 x9 x10 : Option V), Dk a H H3 ∧ nh ≠ a ∧ H3 nh = some (.lst ((os ++ ns).map V.str)) ∧ DeedsAt K H3 p ds ∧ Script (os ++ ns) ds ∧ ds.length ≤ j ∧ σ = [some (.ref a), some (.ref ol), some (.ref nl), some (.int most), some (.ref p), some (.ref nh), x6, x7, x8, x9, x10]
theorem right_rest {H H3 : Hp} {a ol nl nh p q7 : Addr} {os ns : List Str} {most : Int} {j : Nat} {ds : List Deed} {d : Deed} {x6 x8 x9 x10 : Option V} {D : Ends} (k3 : Dk a H H3) (na : nh ≠ a) (hnh : H3 nh = some (.lst ((os ++ ns).map V.str))) (hds : DeedsAt K H3 p ds) (sc : Script (os ++ ns) ds) (hj : ds.length ≤ j) (hj2 : j < 28)
    (hd : DeedAt K H3 q7 d) (hok : d.Ok (os ++ ns)) (hD : ∀ σ H, ScInv K H a ol nl nh os ns most (j + 1) σ H → True) (next : ∀ σ H4, (∃ (p : Addr) (ds : List Deed) (x6 x7 x8 x9 x10 : Option V), Dk a H H4 ∧ nh ≠ a ∧ H4 nh = some (.lst ((os ++ ns).map V.str)) ∧ DeedsAt K H4 p ds ∧ Script (os ++ ns) ds ∧ ds.length ≤ j + 1 ∧ σ = [some (.ref a), some (.ref ol), some (.ref nl), some (.int most), some (.ref p), some (.ref nh), x6, x7, x8, x9, x10]) → D.nx σ H4) :
    t_l_right_script_r1 K D [some (.ref a), some (.ref ol), some (.ref nl), some (.int most), some (.ref p), some (.ref nh), x6, some (.ref q7), x8, x9, x10] H3 := by
  have hz := sizeLine_eq
  unfold t_l_right_script_r1
  walk_at "rd"
  refine ⟨by show 1 ≤ sizeLine; omega, fun q1 hq1 => ?_⟩
  generalize hG : upd H3 q1 _ = H4
  obtain ⟨k4, e4⟩ := gen_new hq1 hG
  clear hG
  obtain ⟨ws, s1, g1⟩ := hds
  refine o_cat (Tk.kp k4 _ _ s1) (SqT.of e4) (by rw [g1.len]; simp only [List.length_cons, List.length_nil]; omega) fun q2 H5 k5 h5 => ?_
  have k35 : Kp H3 H5 := fun b o e => k5 _ _ (k4 _ _ e)
  have all : ∀ e ∈ ds ++ [d], e.Ok (os ++ ns) := fun e he => by
    rcases List.mem_append.mp he with h | h
    · exact sc.ok e h
    · rw [List.mem_singleton.mp h]; exact hok
  refine ⟨q2, ds ++ [d], rfl, ⟨_, h5, (g1.mono (Tk.kp k35)).snoc (Tk.kp k35 _ _ hd)⟩, by rw [List.length_append, List.length_singleton]; omega, fun e he => (all e he).len.2, fun r ro rn ys zs H6 k6 hr hro hrn hy hzz => ?_⟩
  walk_at "rd"
  have k36 : Kp H3 H6 := fun b o e => k6 _ _ (k35 _ _ e)
  obtain ⟨x0, y0, z0, hd0⟩ := k3.deck
  have same : D.nx [some (.ref a), some (.ref ol), some (.ref nl), some (.int most), some (.ref p), some (.ref nh), x6, some (.ref q7), x8, some (.ref r), x10] H6 :=
    next _ _ ⟨p, ds, _, _, _, _, _, ⟨fun b o e nb => k36 _ _ (k3.keep _ _ e nb), x0, y0, z0, k36 _ _ hd0⟩, na, k36 _ _ hnh, ⟨ws, Tk.kp k36 _ _ s1, g1.mono (Tk.kp k36)⟩, sc, by omega, rfl⟩
  refine ⟨r, _, 0, _, rfl, rfl, hr, atI_nat (j := 0) rfl, ro, _, rfl, .inr hro, ?_⟩
  walk_at "rd"
  rw [List.length_map, hy.1.length_eq]
  refine ite2 (fun h5o => ?_) fun _ => ?_
  · have h5o : ((roles (ds ++ [d]) ([], [])).1.length : Int) < 5 := of_decide_eq_true h5o
    refine ⟨r, _, 1, _, rfl, rfl, hr, atI_nat (j := 1) rfl, rn, _, rfl, .inr hrn, ?_⟩
    walk_at "rd"
    rw [List.length_map, hzz.1.length_eq]
    refine ite2 (fun h4n => ?_) fun _ => same
    have h4n : ((roles (ds ++ [d]) ([], [])).2.length : Int) < 4 := of_decide_eq_true h4n
    refine ⟨by show 1 ≤ sizeLine; omega, fun q8 hq8 => ?_⟩
    generalize hG : upd H6 q8 _ = H7
    obtain ⟨k7, e7⟩ := gen_new hq8 hG
    clear hG
    refine o_cat (Tk.kp k7 _ _ (Tk.kp k36 _ _ s1)) (SqT.of e7) (by rw [g1.len]; simp only [List.length_cons, List.length_nil]; omega) fun q9 H8 k8 h8 => ?_
    have k38 : Kp H3 H8 := fun b o e => k8 _ _ (k7 _ _ (k36 _ _ e))
    exact next _ _ ⟨q9, ds ++ [d], _, _, _, _, _, ⟨fun b o e nb => k38 _ _ (k3.keep _ _ e nb), x0, y0, z0, k38 _ _ hd0⟩, na, k38 _ _ hnh, ⟨_, h8, (g1.mono (Tk.kp k38)).snoc (Tk.kp k38 _ _ hd)⟩, ⟨all, by omega, by omega⟩, by rw [List.length_append, List.length_singleton]; omega, rfl⟩
  · rw [if_neg (by decide)]; exact same
/-- [pick(deck, names) for _ in range(3)] -/
theorem lc_three {H : Hp} {a nh : Addr} {zs : List Str} {s1 s2 s3 s4 s6 s7 s8 s9 s10 : Option V} {Q : VK} (hd : DeckAt H a) (hnh : H nh = some (.lst (zs.map V.str))) (na : nh ≠ a) (hne : zs ≠ []) (hsz : zs.length ≤ 1000)
    (q : ∀ L (ys : List Str) H', Dk a H H' → H L = none → H' L = some (.lst (ys.map V.str)) → ys.length = 3 → (∀ y ∈ ys, y ∈ zs) → Q (.ref L) H') :
    LcB (Itr 0 3) (gName 10) tYes (tCall (sp_l_pick K) [] E0 (tCons (tVar 0) (tCons (tVar 5) tNil))) [10] [some (.ref a), s1, s2, s3, s4, some (.ref nh), s6, s7, s8, s9, s10] H Q := by
  have hz := sizeLine_eq
  refine lb_walk (n := 3) walk_range (fun L i H1 => Dk a H H1 ∧ H L = none ∧ ∃ ys : List Str, ys.length = i ∧ (∀ y ∈ ys, y ∈ zs) ∧ H1 L = some (.lst (ys.map V.str))) ?_ (fun _ _ _ _ _ => trivial) ?_ ?_
  · intro L hL
    have hLa := deck_ne hd hL
    refine ⟨⟨fun b o e nb => (show Kp H H from fun _ _ h => h).new hL _ _ e, ?_⟩, hL, [], rfl, (fun z hz => by cases hz), by rw [upd_same]; rfl⟩
    obtain ⟨x, y, z, h⟩ := hd
    exact ⟨x, y, z, by rw [upd_ne hLa.symm]; exact h⟩
  · rintro L i x H1 H2 hi ⟨k1, hL, ys, hl, hys, h1⟩ ⟨rfl, rfl⟩
    have hLa := deck_ne hd hL
    show gName 10 _ _ _ _
    walk_at "rd"
    refine o_pick k1.deck (k1.keep _ _ hnh na) na hne (by omega) fun z H3 hz k3 => ?_
    have hL3 := k3.keep _ _ h1 hLa
    refine ⟨_, hL3, by rw [List.length_map]; omega, ⟨fun b o e nb => ?_, ?_⟩, hL, ys ++ [z], by rw [List.length_append, hl]; rfl, fun y hy => ?_, by rw [upd_same]; simp⟩
    · rw [upd_ne (ne_of_none e hL)]; exact k3.keep _ _ (k1.keep _ _ e nb) nb
    · obtain ⟨x, y, w, h⟩ := k3.deck
      exact ⟨x, y, w, by rw [upd_ne hLa.symm]; exact h⟩
    · rcases List.mem_append.mp hy with h | h
      · exact hys y h
      · rw [List.mem_singleton.mp h]; exact hz
  · rintro L H1 hL ⟨k1, _, ys, hl, hys, h1⟩
    exact q L ys H1 k1 hL h1 hl hys
theorem right_b1 {H H3 : Hp} {a ol nl nh p : Addr} {os ns : List Str} {most : Int} {j : Nat} {ds : List Deed} {x6 x7 x8 x9 x10 : Option V} {D : Ends} (k3 : Dk a H H3) (na : nh ≠ a) (hnh : H3 nh = some (.lst ((os ++ ns).map V.str))) (hds : DeedsAt K H3 p ds) (sc : Script (os ++ ns) ds) (hj : ds.length ≤ j) (hj2 : j < 28)
    (hnl : H nl = some (.lst (ns.map V.str))) (nla : nl ≠ a) (hne : os ++ ns ≠ []) (hlo : os.length ≤ 300) (hln : ns.length ≤ 300) (hnm : ∀ z ∈ os ++ ns, IsName z)
    (next : ∀ σ H4, ScInv K H a ol nl nh os ns most (j + 1) σ H4 → D.nx σ H4) :
    t_l_right_script_b1 K D [some (.ref a), some (.ref ol), some (.ref nl), some (.int most), some (.ref p), some (.ref nh), x6, x7, x8, x9, x10] H3 := by
  have hz := sizeLine_eq
  unfold t_l_right_script_b1
  walk_at "rd"
  refine ⟨by decide, by decide, ?_⟩
  refine lc_three k3.deck hnh na hne (by rw [List.length_append]; omega) fun L ys H4 k4 hL h4 hl4 hys => ?_
  have hLa := deck_ne k3.deck hL
  refine ⟨a, L, ys, rfl, k4.deck, h4, hLa, (fun e => by rw [e] at hl4; cases hl4), by omega, fun q7 d H5 k5 hd hok => ?_⟩
  have hok2 : d.Ok (os ++ ns) := ⟨hok.word, hok.many, fun n hn => hys n (hok.nms n hn)⟩
  have k35 := k4.trans k5
  have k05 := k3.trans k35
  have t35 : Tk K H3 H5 := k35.tk k3.deck
  walk_at "rd"
  obtain ⟨ws, s1, g1⟩ := hds
  have hl := hok2.len
  obtain ⟨n0, nr, hn0⟩ : ∃ n0 nr, d.names = n0 :: nr := by
    cases e : d.names with
    | nil => rw [e] at hl; simp at hl
    | cons n r => exact ⟨n, r, rfl⟩
  have hd' : SqT K H5 q7 (.str d.word :: (n0 :: nr).map V.str) := by rw [← hn0]; exact hd
  have hn0z : n0 ∈ os ++ ns := hok2.nms n0 (by rw [hn0]; exact List.mem_cons_self ..)
  have mid : ∀ (q : Addr) (e : Deed) (H6 : Hp) (w8 : Option V), Dk a H5 H6 → DeedAt K H6 q e → e.Ok (os ++ ns) → ∃ (q7 : Addr) (d : Deed) (y8 : Option V), Dk a H H6 ∧ H6 nh = some (.lst ((os ++ ns).map V.str)) ∧ DeedsAt K H6 p ds ∧ DeedAt K H6 q7 d ∧ d.Ok (os ++ ns) ∧
      [some (V.ref a), some (V.ref ol), some (V.ref nl), some (V.int most), some (V.ref p), some (V.ref nh), x6, some (V.ref q), w8, x9, x10] = [some (.ref a), some (.ref ol), some (.ref nl), some (.int most), some (.ref p), some (.ref nh), x6, some (.ref q7), y8, x9, x10]   := fun q e H6 w8 k6 he ho =>
    ⟨q, e, w8, k05.trans k6, k6.keep _ _ (k35.keep _ _ hnh na) na, ⟨ws, (k6.tk k5.deck) _ _ (t35 _ _ s1), (g1.mono t35).mono (k6.tk k5.deck)⟩, he, ho, rfl⟩
  refine ⟨fun σ H6 => ∃ (q7 : Addr) (d : Deed) (y8 : Option V), Dk a H H6 ∧ H6 nh = some (.lst ((os ++ ns).map V.str)) ∧ DeedsAt K H6 p ds ∧ DeedAt K H6 q7 d ∧ d.Ok (os ++ ns) ∧ σ = [some (.ref a), some (.ref ol), some (.ref nl), some (.int most), some (.ref p), some (.ref nh), x6, some (.ref q7), y8, x9, x10], ?_, ?_⟩
  · walk_at "rd"
    refine ⟨q7, _, 0, _, rfl, rfl, hd', atI_nat (j := 0) rfl, by show 2 ≤ sizeLine; omega, fun q6 hq6 => ?_⟩
    have hq6a := deck_ne k5.deck hq6
    generalize hG : upd H5 q6 _ = H6
    obtain ⟨k6, e6⟩ := gen_new hq6 hG
    clear hG
    obtain ⟨x0, y0, z0, hd5⟩ := k5.deck
    have d56 : Dk a H5 H6 := ⟨fun b o e _ => k6 _ _ e, x0, y0, z0, k6 _ _ hd5⟩
    have hw6 : SqT K H6 q6 ((["wrap", "put"] : List Str).map V.str) := SqT.of e6
    refine o_notinT hw6 ?_
    walk_at "rd"
    refine ite2 (fun _ => ?_) fun _ => ?_
    · refine o_draw d56.deck (by decide) (by decide) fun c H7 c0 c1 k7 => ?_
      have d57 := d56.trans k7
      refine ⟨rfl, ite2 (fun _ => ?_) fun _ => ?_⟩
      · refine ⟨Nat.zero_le _, fun q8 hq8 => ?_⟩
        have hq8a := deck_ne d57.deck hq8
        generalize hG : upd H7 q8 _ = H8
        obtain ⟨k8, e8⟩ := gen_new hq8 hG
        clear hG
        obtain ⟨x1, y1, z1, hd7⟩ := d57.deck
        have d58 : Dk a H5 H8 := ⟨fun b o e nb => k8 _ _ (d57.keep _ _ e nb), x1, y1, z1, k8 _ _ hd7⟩
        have hnl8 := d58.keep _ _ (k05.keep _ _ hnl nla) nla
        refine o_neStrNil hnl8 e8 (fun z hz => hnm z (List.mem_append_right _ hz)) ?_
        walk_at "rd"
        refine ite2 (fun hne2 => ?_) fun _ => ?_
        · have hns : ns ≠ [] := fun e => by rw [e] at hne2; cases hne2
          refine o_pick d58.deck hnl8 nla hns (by omega) fun m H9 hm k9 => ?_
          have d59 := d58.trans k9
          have t59 : Tk K H5 H9 := d59.tk k5.deck
          have hmz : m ∈ os ++ ns := List.mem_append_right _ hm
          have hat : atI (V.str d.word :: (n0 :: nr).map V.str) 1 = some (.str n0) := atI_nat (j := 1) rfl
          walk_at "rd"
          refine ⟨q7, _, 1, _, rfl, rfl, t59 _ _ hd', hat, by show 3 ≤ sizeLine; omega, fun a1 ha1 => ?_⟩
          generalize hG : upd H9 a1 _ = H10
          obtain ⟨k10, e10⟩ := gen_new ha1 hG
          clear hG
          refine ⟨q7, _, 1, _, rfl, rfl, Tk.kp k10 _ _ (t59 _ _ hd'), hat, by show 3 ≤ sizeLine; omega, fun a2 ha2 => ?_⟩
          generalize hG : upd H10 a2 _ = H11
          obtain ⟨k11, e11⟩ := gen_new ha2 hG
          clear hG
          refine ⟨by show 2 ≤ sizeLine; omega, fun a3 ha3 => ?_⟩
          have k911 : Kp H9 H11 := fun b o e => k11 _ _ (k10 _ _ e)
          obtain ⟨x2, y2, z2, hd9⟩ := d59.deck
          have ha3a : a3 ≠ a := deck_ne ⟨x2, y2, z2, k911 _ _ hd9⟩ ha3
          generalize hG : upd H11 a3 _ = H12
          obtain ⟨k12, e12⟩ := gen_new ha3 hG
          clear hG
          have k912 : Kp H9 H12 := fun b o e => k12 _ _ (k911 _ _ e)
          have d512 : Dk a H5 H12 := ⟨fun b o e nb => k912 _ _ (d59.keep _ _ e nb), x2, y2, z2, k912 _ _ hd9⟩
          refine ⟨a, a3, _, rfl, d512.deck, SqL.of e12, ha3a, (fun e => by cases e), by show 2 ≤ 1000000; decide, fun x H13 hx k13 => ?_⟩
          have d513 := d512.trans k13
          rcases List.mem_cons.mp hx with e | hx
          · subst e
            refine mid a1 ⟨"wrap", [n0, m]⟩ H13 (some (.str m)) d513 (k13.tk d512.deck _ _ (SqT.of (k12 _ _ (k11 _ _ e10)))) ⟨wrap_in, by show 2 = if ("wrap" : Str) ∈ words1 then 1 else 2; rw [if_neg wrap_no], fun n hn => ?_⟩
            rcases List.mem_cons.mp hn with e | hn
            · rw [e]; exact hn0z
            · rw [List.mem_singleton.mp hn]; exact hmz
          · obtain rfl := List.mem_singleton.mp hx
            refine mid a2 ⟨"put", [m, n0]⟩ H13 (some (.str m)) d513 (k13.tk d512.deck _ _ (SqT.of (k12 _ _ e11))) ⟨put_in, by show 2 = if ("put" : Str) ∈ words1 then 1 else 2; rw [if_neg put_no], fun n hn => ?_⟩
            rcases List.mem_cons.mp hn with e | hn
            · rw [e]; exact hmz
            · rw [List.mem_singleton.mp hn]; exact hn0z
        · exact mid q7 d H8 x8 d58 (d58.tk k5.deck _ _ hd) hok2
      · rw [if_neg (by decide)]
        exact mid q7 d H7 x8 d57 (d57.tk k5.deck _ _ hd) hok2
    · rw [if_neg (by decide)]
      exact mid q7 d H6 x8 d56 (d56.tk k5.deck _ _ hd) hok2
  · rintro σ H6 ⟨q, e, y8, k6, hn6, hds6, he, ho, rfl⟩
    exact right_rest k6 na hn6 hds6 sc hj hj2 he ho (fun _ _ _ => trivial) fun σ H4 h => next σ H4 h
theorem pure_l_right_script (vs : List V) (H : Hp) (Q : VK) (E : XK) (h : sp_l_right_script K vs H Q E) : t_l_right_script K { nx := fun _ H' => Q .non H', rt := Q } (startN 11 vs) H := by
  obtain ⟨a, ol, nl, os, ns, most, rfl, hd, hol, hnl, ola, nla, hne, hlo, hln, hnm, m0, m1, q⟩ := h
  show t_l_right_script K _ [some (.ref a), some (.ref ol), some (.ref nl), some (.int most), none, none, none, none, none, none, none] H
  unfold t_l_right_script
  have hz := sizeLine_eq
  walk_at "rd"
  refine ⟨Nat.zero_le _, fun p0 hp0 => ?_⟩
  generalize hG : upd H p0 _ = H1
  obtain ⟨k1, e1⟩ := gen_new hp0 hG
  clear hG
  walk_at "rd"
  refine ⟨ol, nl, _, _, rfl, rfl, k1 _ _ hol, k1 _ _ hnl, by rw [List.length_map, List.length_map]; omega, fun nh hnh => ?_⟩
  generalize hG : upd H1 nh _ = H2
  obtain ⟨k2, e2⟩ := gen_new hnh hG
  clear hG
  rw [← List.map_append] at e2
  have k02 : Kp H H2 := fun b o e => k2 _ _ (k1 _ _ e)
  obtain ⟨x0, y0, z0, hd0⟩ := hd
  have d02 : Dk a H H2 := ⟨fun b o e _ => k02 _ _ e, x0, y0, z0, k02 _ _ hd0⟩
  have na : nh ≠ a := deck_ne ⟨x0, y0, z0, k1 _ _ hd0⟩ hnh
  walk_at "rd"
  refine o_draw d02.deck (by omega) (by omega) fun c H3 c0 c1 k3 => ?_
  walk_at "rd"
  refine ⟨by omega, by omega, ?_⟩
  have t23 : Tk K H2 H3 := k3.tk d02.deck
  refine fb_range (ScInv K H a ol nl nh os ns most) ?_ ?_ ?_
  · exact ⟨p0, [], _, _, _, _, _, d02.trans k3, na, k3.keep _ _ e2 na, ⟨[], t23 _ _ (SqT.of (k2 _ _ e1)), .nil⟩, ⟨(fun d hd => by cases hd), Nat.zero_le _, Nat.zero_le _⟩, Nat.le_refl _, rfl⟩
  · rintro j σ H4 hj ⟨p, ds, x6, x7, x8, x9, x10, k4, _, hn4, hds, sc, hjl, rfl⟩
    walk_at "rd"
    exact right_b1 k4 na hn4 hds sc hjl (by omega) hnl nla hne hlo hln hnm fun σ H5 h => h
  · rintro σ H4 ⟨p, ds, x6, x7, x8, x9, x10, k4, _, hn4, hds, sc, hjl, rfl⟩
    walk_at "rd"
    exact q p ds H4 k4 hds sc (by omega)
end
end Tw
set_option Elab.async false
set_option linter.all false
set_option maxRecDepth 100000
set_option maxHeartbeats 4000000
/-! what is sorted is so in one way -/
namespace Tw
open PySem PySem.Spec PyProof.Rows L2 TL
def leS (a b : Str) : Prop := a.cps.toList ≤ b.cps.toList
theorem leS_trans {a b c : Str} (h1 : leS a b) (h2 : leS b c) : leS a c := List.le_trans h1 h2
theorem leS_anti {a b : Str} (h1 : leS a b) (h2 : leS b a) : a = b := str_ext (List.le_antisymm h1 h2)
theorem rising_pw : ∀ (l : List Str) (p : Str), risingS p l = true → (p :: l).Pairwise leS
  | [], p, _ => List.pairwise_singleton ..
  | x :: r, p, h => by
    have h' : (!ltCps x.cps.toList p.cps.toList && risingS x r) = true := h
    rw [Bool.and_eq_true, ltCps_eq] at h'
    have h1 : leS p x := by
      have := h'.1
      simp only [Bool.not_eq_true', decide_eq_false_iff_not] at this
      exact List.not_lt.mp this
    have h2 := rising_pw r x h'.2
    refine List.pairwise_cons.mpr ⟨fun y hy => ?_, h2⟩
    rcases List.mem_cons.mp hy with e | hy
    · rw [e]; exact h1
    · exact leS_trans h1 (List.rel_of_pairwise_cons h2 hy)
theorem sorted_pw : ∀ {l : List Str}, sortedS l = true → l.Pairwise leS
  | [], _ => List.Pairwise.nil
  | x :: r, h => rising_pw r x h
theorem Asc.unique {xs ys zs : List Str} (h1 : Asc ys xs) (h2 : Asc zs xs) : ys = zs :=
  List.Perm.eq_of_pairwise (le := leS) (fun _ _ _ _ => leS_anti) (sorted_pw h1.2) (sorted_pw h2.2) (h1.1.trans h2.1.symm)
end Tw
set_option Elab.async false
set_option linter.all false
set_option maxRecDepth 100000
set_option maxHeartbeats 4000000
/-! k17, the law's own side: old_names and new_names are asked for, the program's text is not known yet -/
namespace Tw
open PySem PySem.Spec PyProof.Rows L2 TL
local macro_rules | `(tactic| walk_at "rd") => `(tactic| try simp only [o_op, o_un, o_var, o_c, o_cb, o_call, o_cons, o_nil, o_tup, o_lst, o_I0, o_I, o_int1, o_intb, o_abs, o_test, o_b, o_not, o_and, o_or, o_andV, o_orV, o_notV, o_ifE, o_isN, o_notN, o_eq, o_ne, o_seq, o_next, o_asg, o_name, o_sub, o_par, o_par3, o_drop, o_ret, o_retN, o_ifS, o_sl, o_noPart, o_part, o_bm, o_bm0, o_m0, o_m1, o_dget, o_dput, o_din, o_dnotin, o_listKeys, e_bl, e_int, e_str, e_some, e_two, e_three, o_for, o_lc, o_iList, o_iTup, o_iRng1, e_int1, e_ref, o_yes, o_wipe0, o_wipe1, o_disp, o_dnew, o_pairs0, o_pairs1, o_lock, o_keysM, o_gtup, o_gcons, o_gnil, o_rU, o_tru, o_revT, o_enumT, o_from, true_and, if_pos, List.getElem?_cons_zero, List.getElem?_cons_succ, List.set_cons_zero, List.set_cons_succ, List.append_nil])
/-- a script as it may be passed -/
structure ScriptOk (zs : List Str) (ds : List Deed) : Prop where
  sc : Script zs ds
  len : ds.length ≤ 12
  nms : ∀ z ∈ zs, IsName z
def sp_old_names (K : PySem.W.Frag) : Sp := fun vs H Q _ => ∃ (t : Addr) (ds : List Deed), vs = [.ref t] ∧ DeedsAt K H t ds ∧ (∀ d ∈ ds, ∃ zs, d.Ok zs) ∧ ds.length ≤ 30 ∧ ∀ (p : Addr) (ys : List Str) (H' : Hp), Kp H H' → SqT K H' p (ys.map V.str) → Asc ys (roles ds ([], [])).1 → Q (.ref p) H'
def sp_new_names (K : PySem.W.Frag) : Sp := fun vs H Q _ => ∃ (t : Addr) (ds : List Deed), vs = [.ref t] ∧ DeedsAt K H t ds ∧ (∀ d ∈ ds, ∃ zs, d.Ok zs) ∧ ds.length ≤ 30 ∧ ∀ (p : Addr) (ys : List Str) (H' : Hp), Kp H H' → SqT K H' p (ys.map V.str) → Asc ys (roles ds ([], [])).2 → Q (.ref p) H'
def t_law17_r1 (K : PySem.W.Frag) : TS :=
  (tRet (tOp (rEqB K) (tLst (tCons (tCall (sp_old_names K) [] E0 (tCons (tVar 5) tNil)) (tCons (tCall (sp_new_names K) [] E0 (tCons (tVar 5) tNil)) tNil))) (tCB (rListOf K) (tCons (tCall (sp_l_roles K) [] E0 (tCons (tVar 5) tNil)) tNil))))
section
variable {K : PySem.W.Frag}
theorem roleNames_in (made : Nat) : ∀ (ns : List Str) (k : Nat) (r : List Str × List Str) (z : Str), z ∈ (roleNames made k ns r).1 ++ (roleNames made k ns r).2 → z ∈ r.1 ++ r.2 ∨ z ∈ ns
  | [], _, _, _, h => .inl h
  | n :: ns, k, r, z, h => by
    unfold roleNames at h
    rcases roleNames_in made ns (k + 1) _ z h with h | h
    · split at h
      · exact .inl h
      · split at h
        · rw [← List.append_assoc] at h
          rcases List.mem_append.mp h with h | h
          · exact .inl h
          · exact .inr (by rw [List.mem_singleton.mp h]; exact List.mem_cons_self ..)
        · rcases List.mem_append.mp h with h | h
          · rcases List.mem_append.mp h with h | h
            · exact .inl (List.mem_append_left _ h)
            · exact .inr (by rw [List.mem_singleton.mp h]; exact List.mem_cons_self ..)
          · exact .inl (List.mem_append_right _ h)
    · exact .inr (List.mem_cons_of_mem _ h)
theorem roles_in : ∀ (ds : List Deed) (r : List Str × List Str) (z : Str), z ∈ (roles ds r).1 ++ (roles ds r).2 → z ∈ r.1 ++ r.2 ∨ ∃ d ∈ ds, z ∈ d.names
  | [], _, _, h => .inl h
  | d :: ds, r, z, h => by
    unfold roles at h
    rcases roles_in ds _ z h with h | ⟨e, he, hz⟩
    · rcases roleNames_in _ _ _ _ z h with h | h
      · exact .inl h
      · exact .inr ⟨d, List.mem_cons_self .., h⟩
    · exact .inr ⟨e, List.mem_cons_of_mem _ he, hz⟩
theorem ScriptOk.names {zs : List Str} {ds : List Deed} (h : ScriptOk zs ds) : (∀ z ∈ (roles ds ([], [])).1, PyData.strOk z = true) ∧ ∀ z ∈ (roles ds ([], [])).2, PyData.strOk z = true := by
  have key : ∀ z ∈ (roles ds ([], [])).1 ++ (roles ds ([], [])).2, PyData.strOk z = true := fun z hz => by
    rcases roles_in ds _ z hz with h2 | ⟨d, hd, hz⟩
    · cases h2
    · exact strOk_of (h.nms z ((h.sc.ok d hd).nms z hz))
  exact ⟨fun z hz => key z (List.mem_append_left _ hz), fun z hz => key z (List.mem_append_right _ hz)⟩
theorem o_eqTwo {H : Hp} {Q : VK} {a b o1 n1 o2 n2 : Addr} {ys zs : List Str} (h1 : H a = some (.lst [.ref o1, .ref n1])) (h2 : H b = some (.lst [.ref o2, .ref n2])) (a1 : SqT K H o1 (ys.map V.str)) (b1 : SqT K H n1 (zs.map V.str)) (a2 : SqT K H o2 (ys.map V.str)) (b2 : SqT K H n2 (zs.map V.str))
    (hy : ∀ z ∈ ys, PyData.strOk z = true) (hz : ∀ z ∈ zs, PyData.strOk z = true) (q : Q (.bl true) H) : rEqB K (.ref a) (.ref b) H Q := by
  have hl : PyData.canLay0 (.list (gdata [ys, zs])) = true := by
    rw [PyData.canLay0]
    exact gdata_lay [ys, zs] fun g hg z hzg => by
      rcases List.mem_cons.mp hg with e | hg
      · rw [e] at hzg; exact hy z hzg
      · rw [List.mem_singleton.mp hg] at hzg; exact hz z hzg
  have e := SeqAt.eqv_refl _ hl
  have := gdata_depth [ys, zs]
  refine ⟨_, _, .lst (SqL.of h1) (Gs.cons a1 (Gs.cons b1 .nil)).dp, .lst (SqL.of h2) (Gs.cons a2 (Gs.cons b2 .nil)).dp, hl, hl, ?_, by rw [e]; exact q⟩
  simp only [PyData.depth]; omega
theorem law_rest {H : Hp} {x0 x1 x2 x3 x4 x6 x7 : Option V} {t : Addr} {zs : List Str} {ds : List Deed} {D : Ends} (hd : DeedsAt K H t ds) (ok : ScriptOk zs ds) (q : ∀ H', D.rt (.bl true) H') :
    t_law17_r1 K D [x0, x1, x2, x3, x4, some (.ref t), x6, x7] H := by
  have hz := sizeLine_eq
  unfold t_law17_r1
  obtain ⟨ws, s1, g1⟩ := hd
  walk_at "rd"
  refine ⟨t, ds, rfl, ⟨ws, s1, g1⟩, fun d hd => ⟨zs, ok.sc.ok d hd⟩, by have := ok.len; omega, fun p1 y1 H1 k1 h1 a1 => ?_⟩
  refine ⟨t, ds, rfl, ⟨ws, Tk.kp k1 _ _ s1, g1.mono (Tk.kp k1)⟩, fun d hd => ⟨zs, ok.sc.ok d hd⟩, by have := ok.len; omega, fun p2 z1 H2 k2 h2 b1 => ?_⟩
  refine ⟨by show 2 ≤ sizeLine; omega, fun l hl => ?_⟩
  generalize hG : upd H2 l _ = H3
  obtain ⟨k3, e3⟩ := gen_new hl hG
  clear hG
  have k03 : Kp H H3 := fun b o e => k3 _ _ (k2 _ _ (k1 _ _ e))
  refine ⟨t, ds, rfl, ⟨ws, Tk.kp k03 _ _ s1, g1.mono (Tk.kp k03)⟩, by have := ok.len; omega, fun d hd => (ok.sc.ok d hd).len.2, fun r o n y2 z2 H4 k4 hr ho hn a2 b2 => ?_⟩
  obtain rfl := Asc.unique a1 a2
  obtain rfl := Asc.unique b1 b2
  refine ⟨r, _, rfl, .inr hr, fun m hm => ?_⟩
  generalize hG : upd H4 m _ = H5
  obtain ⟨k5, e5⟩ := gen_new hm hG
  clear hG
  have k35 : Kp H3 H5 := fun b o e => k5 _ _ (k4 _ _ e)
  refine o_eqTwo (k35 _ _ e3) e5 (Tk.kp (fun b o e => k35 _ _ (k3 _ _ (k2 _ _ e))) _ _ h1) (Tk.kp (fun b o e => k35 _ _ (k3 _ _ e)) _ _ h2) (Tk.kp k5 _ _ ho) (Tk.kp k5 _ _ hn) (fun z hz => ok.names.1 z (a1.1.mem_iff.mp hz)) (fun z hz => ok.names.2 z (b1.1.mem_iff.mp hz)) (q H5)
theorem o_slA {H : Hp} {Q : VK} {a : Addr} {xs : List V} {lo hi : Option Int} (h : SqT K H a xs) (q : ∀ p H', Kp H H' → SqT K H' p (cutV xs lo hi) → Q (.ref p) H') : rSlA K (.ref a) lo hi H Q := by
  refine ⟨a, xs, rfl, h, fun e => ?_, fun _ p hp => ?_⟩
  · refine q a H (fun _ _ e => e) ?_
    have : cutV xs lo hi = xs := by unfold cutV; rw [e.1, e.2]; simp
    rw [this]; exact h
  · exact q p _ ((show Kp H H from fun _ _ h => h).new hp) (SqT.of upd_same)
theorem Ds.drop {H : Hp} : ∀ {n : Nat} {vs : List V} {ds : List Deed}, Ds K H vs ds → Ds K H (vs.drop n) (ds.drop n)
  | 0, _, _, h => h
  | _ + 1, _, _, .nil => .nil
  | n + 1, _, _, .cons _ b => Ds.drop (n := n) b
theorem Ds.take {H : Hp} : ∀ {n : Nat} {vs : List V} {ds : List Deed}, Ds K H vs ds → Ds K H (vs.take n) (ds.take n)
  | 0, _, _, _ => .nil
  | _ + 1, _, _, .nil => .nil
  | n + 1, _, _, .cons a b => .cons a (Ds.take (n := n) b)
theorem Ds.app {H : Hp} {v1 v2 : List V} {d1 d2 : List Deed} (h1 : Ds K H v1 d1) (h2 : Ds K H v2 d2) : Ds K H (v1 ++ v2) (d1 ++ d2) := by
  induction h1 with
  | nil => exact h2
  | cons a _ ih => exact .cons a ih
theorem sIx_le' (n d k : Nat) : HT.sIx n d (some (k : Int)) = min k n := HT.sIx_nat n d k
def t_law17 (K : PySem.W.Frag) : TS :=
  (tSeq (tAsg (tCall (sp_l_deck K) [] E0 (tCons (tVar 0) tNil)) (gName 1))
  (tSeq (tAsg (tCall sp_l_names [] E0 (tCons (tVar 1) (tCons (tC (.int 7)) tNil))) (gName 2))
  (tSeq (tPar 3 4 (tCons (tCall sp_l_draw [] E0 (tCons (tVar 1) (tCons (tC (.int 6)) tNil))) (tCons (tOp (rI0 fun i j => .int (i + j)) (tC (.int 1)) (tCall sp_l_draw [] E0 (tCons (tVar 1) (tCons (tC (.int 3)) tNil)))) tNil)))
  (tSeq (tAsg (tCall (sp_l_right_script K) [] E0 (tCons (tVar 1) (tCons (L2.tSl (rSlL K) (tVar 2) tNoPart (tPart (tVar 3))) (tCons (L2.tSl (rSlL K) (tVar 2) (tPart (tVar 3)) (tPart (tOp (rI0 fun i j => .int (i + j)) (tVar 3) (tVar 4)))) (tCons (tC (.int 12)) tNil))))) (gName 5))
  (C8.tCut (tIfS (tTest (tOp rEq (tCall sp_l_draw [] E0 (tCons (tVar 1) (tCons (tC (.int 8)) tNil))) (tC (.int 2)))) (tSeq (tAsg (tTup (tCons (tCall (sp_l_pick K) [] E0 (tCons (tVar 1) (tCons (tLst (tCons (tC (.str "put")) (tCons (tC (.str "wrap")) tNil))) tNil))) (tCons (tOp (rIxL K) (tVar 2) (tC (.int 0))) (tCons (tOp (rIxL K) (tVar 2) (tC (.int 0))) tNil)))) (gName 6))
  (tSeq (tAsg (tOp (rCatA K) (tOp (rCatA K) (L2.tSl (rSlA K) (tVar 5) tNoPart (tPart (tC (.int 4)))) (tTup (tCons (tVar 6) tNil))) (L2.tSl (rSlA K) (tVar 5) (tPart (tC (.int 4))) (tPart (tC (.int 11))))) (gName 5))
  (tSeq (tAsg (tCall (sp_l_roles K) [] E0 (tCons (tVar 5) tNil)) (gName 7))
  (tIfS (tOr (tTest (tOp (rI0 fun i j => .bl (decide (j < i))) (tCB (rLenSeq K) (tCons (tOp (rIxT K) (tVar 7) (tC (.int 0))) tNil)) (tC (.int 4)))) (tTest (tOp (rI0 fun i j => .bl (decide (j < i))) (tCB (rLenSeq K) (tCons (tOp (rIxT K) (tVar 7) (tC (.int 1))) tNil)) (tC (.int 3))))) (tAsg (tTup tNil) (gName 5)) tNext)))) tNext)
  (t_law17_r1 K))))))
theorem none_ok {zs : List Str} (h : ∀ z ∈ zs, IsName z) : ScriptOk zs [] := ⟨⟨(fun d hd => by cases hd), Nat.zero_le _, Nat.zero_le _⟩, Nat.zero_le _, h⟩
theorem pure_law17 (vs : List V) (H : Hp) (Q : VK) (E : XK) (h : sp_law K vs H Q E) : t_law17 K { nx := fun _ H' => Q .non H', rt := Q } (startN 8 vs) H := by
  obtain ⟨a, ns, rfl, _, hs, q⟩ := h
  show t_law17 K _ [some (.ref a), none, none, none, none, none, none, none] H
  unfold t_law17
  have hz := sizeLine_eq
  walk_at "rd"
  refine ⟨a, ns, rfl, hs, fun d H1 k1 hd _ => ?_⟩
  walk_at "rd"
  refine o_names hd (by decide) (by decide) fun l zs H2 hl k2 hzl hzn nd hnm => ?_
  walk_at "rd"
  have hld : l ≠ d := deck_ne hd hl
  refine o_draw k2.deck (by decide) (by decide) fun c H3 c0 c1 k3 => ?_
  refine o_draw k3.deck (by decide) (by decide) fun e H4 f0 f1 k4 => ?_
  walk_at "rd"
  have hz4 := k4.keep _ _ (k3.keep _ _ hzl hld) hld
  refine ⟨l, _, rfl, SqL.of hz4, fun p5 hp5 => ?_⟩
  have hp5d := deck_ne k4.deck hp5
  generalize hG : upd H4 p5 _ = H5
  obtain ⟨k5, e5⟩ := gen_new hp5 hG
  clear hG
  obtain ⟨x0, y0, z0, hd4⟩ := k4.deck
  refine ⟨l, _, rfl, SqL.of (k5 _ _ hz4), fun p6 hp6 => ?_⟩
  have hp6d : p6 ≠ d := deck_ne ⟨x0, y0, z0, k5 _ _ hd4⟩ hp6
  generalize hG : upd H5 p6 _ = H6
  obtain ⟨k6, e6⟩ := gen_new hp6 hG
  clear hG
  obtain ⟨cn, rfl⟩ : ∃ n : Nat, c = (n : Int) := ⟨c.toNat, by omega⟩
  obtain ⟨fn, rfl⟩ : ∃ n : Nat, e = (n : Int) := ⟨e.toNat, by omega⟩
  rw [show ((cn : Int) + (1 + (fn : Int))) = ((cn + (1 + fn) : Nat) : Int) by omega] at e6
  rw [cutV_str, HT.sIx_none, HT.sIx_nat, List.drop_zero, Nat.sub_zero, Nat.min_eq_left (by omega)] at e5
  rw [cutV_str, HT.sIx_nat, HT.sIx_nat, Nat.min_eq_left (a := cn) (by omega)] at e6
  generalize hb : min (cn + (1 + fn)) zs.length = bn at e6
  have hin : ∀ z ∈ zs.take cn ++ (zs.drop cn).take (bn - cn), z ∈ zs := fun z hz => by
    rcases List.mem_append.mp hz with h | h
    · exact List.mem_of_mem_take h
    · exact List.mem_of_mem_drop (List.mem_of_mem_take h)
  have hnz : zs.take cn ++ (zs.drop cn).take (bn - cn) ≠ [] := fun e => by
    have := congrArg List.length e
    simp only [List.length_append, List.length_take, List.length_drop, List.length_nil] at this
    omega
  refine ⟨d, p5, p6, _, _, 12, rfl, ⟨x0, y0, z0, k6 _ _ (k5 _ _ hd4)⟩, k6 _ _ e5, e6, hp5d, hp6d, hnz, by rw [List.length_take]; omega, by rw [List.length_take, List.length_drop]; omega, fun z hz => hnm z (hin z hz), by decide, by decide, fun t ds H7 k7 hds sc hdl => ?_⟩
  walk_at "rd"
  have hl7 := k7.keep _ _ (k6 _ _ (k5 _ _ hz4)) hld
  have ok7 : ScriptOk zs ds := ⟨⟨fun d hd => ⟨(sc.ok d hd).word, (sc.ok d hd).many, fun n hn => hin n ((sc.ok d hd).nms n hn)⟩, sc.old, sc.new⟩, by omega, hnm⟩
  refine ⟨fun σ H8 => ∃ (t : Addr) (ds : List Deed) (x6 x7 : Option V), DeedsAt K H8 t ds ∧ ScriptOk zs ds ∧ σ = [some (.ref a), some (.ref d), some (.ref l), some (.int (cn : Int)), some (.int (1 + (fn : Int))), some (.ref t), x6, x7], ?_, ?_⟩
  · walk_at "rd"
    refine o_draw k7.deck (by decide) (by decide) fun g H8 g0 g1 k8 => ?_
    have t78 : Tk K H7 H8 := k8.tk k7.deck
    obtain ⟨ws, s1, g1⟩ := hds
    refine ⟨rfl, ite2 (fun _ => ?_) fun _ => ⟨t, ds, _, _, ⟨ws, t78 _ _ s1, g1.mono t78⟩, ok7, rfl⟩⟩
    refine ⟨by show 2 ≤ sizeLine; omega, fun p9 hp9 => ?_⟩
    have hp9d := deck_ne k8.deck hp9
    generalize hG : upd H8 p9 _ = H9
    obtain ⟨k9, e9⟩ := gen_new hp9 hG
    clear hG
    obtain ⟨x1, y1, z1, hd8⟩ := k8.deck
    have e9' : H9 p9 = some (.lst ((["put", "wrap"] : List Str).map V.str)) := e9
    refine o_pick ⟨x1, y1, z1, k9 _ _ hd8⟩ e9' hp9d (by decide) (by decide) fun w H10 hw k10 => ?_
    have hl10 := k10.keep _ _ (k9 _ _ (k8.keep _ _ hl7 hld)) hld
    have hz0 : zs[0]? = some (zs[0]'(by omega)) := List.getElem?_eq_getElem (by omega)
    generalize zs[0]'(by omega) = z at hz0
    have hzz : z ∈ zs := List.mem_of_getElem? hz0
    have hat : atI (zs.map V.str) 0 = some (.str z) := atI_nat (j := 0) (by rw [List.getElem?_map, hz0]; rfl)
    refine o_ixL hl10 hat (o_ixL hl10 hat ⟨by show 3 ≤ sizeLine; omega, fun p11 hp11 => ?_⟩)
    generalize hG : upd H10 p11 _ = H11
    obtain ⟨k11, e11⟩ := gen_new hp11 hG
    clear hG
    have t911 : Tk K H8 H11 := ((Tk.kp k9).trans (k10.tk ⟨x1, y1, z1, k9 _ _ hd8⟩)).trans (Tk.kp k11)
    have t711 := t78.trans t911
    have hd11 : DeedAt K H11 p11 ⟨w, [z, z]⟩ := SqT.of e11
    have hwo : w ∈ words ∧ w ∉ words1 := by
      rcases List.mem_cons.mp hw with e | hw
      · rw [e]; exact ⟨put_in, put_no⟩
      · rw [List.mem_singleton.mp hw]; exact ⟨wrap_in, wrap_no⟩
    have hok : (⟨w, [z, z]⟩ : Deed).Ok zs := ⟨hwo.1, by show 2 = if w ∈ words1 then 1 else 2; rw [if_neg hwo.2], fun n hn => by
      rcases List.mem_cons.mp hn with e | hn
      · rw [e]; exact hzz
      · rw [List.mem_singleton.mp hn]; exact hzz⟩
    walk_at "rd"
    have hwl := g1.len
    have hdl2 := ok7.len
    refine o_slA (t711 _ _ s1) fun q12 H12 k12 h12 => ?_
    refine ⟨by show 1 ≤ sizeLine; omega, fun p13 hp13 => ?_⟩
    generalize hG : upd H12 p13 _ = H13
    obtain ⟨k13, e13⟩ := gen_new hp13 hG
    clear hG
    refine o_cat (Tk.kp k13 _ _ h12) (SqT.of e13) (by have := cutV_length ws none (some 4); simp only [List.length_cons, List.length_nil]; omega) fun q14 H14 k14 h14 => ?_
    refine o_slA (Tk.kp (fun b o e => k14 _ _ (k13 _ _ (k12 _ _ e))) _ _ (t711 _ _ s1)) fun q15 H15 k15 h15 => ?_
    refine o_cat (Tk.kp k15 _ _ h14) h15 (by have := cutV_length ws none (some 4); have := cutV_length ws (some 4) (some 11); simp only [List.length_append, List.length_cons, List.length_nil]; omega) fun q16 H16 k16 h16 => ?_
    walk_at "rd"
    have k1114 : Kp H11 H14 := fun b o e => k14 _ _ (k13 _ _ (k12 _ _ e))
    have k1116 : Kp H11 H16 := fun b o e => k16 _ _ (k15 _ _ (k1114 _ _ e))
    have t716 : Tk K H7 H16 := t711.trans (Tk.kp k1116)
    have g16 := g1.mono t716
    have c1 : HT.sIx ws.length ws.length (some (4 : Int)) = min 4 ws.length := HT.sIx_nat _ _ 4
    have c2 : HT.sIx ws.length ws.length (some (11 : Int)) = min 11 ws.length := HT.sIx_nat _ _ 11
    have c3 : HT.sIx ws.length 0 (some (4 : Int)) = min 4 ws.length := HT.sIx_nat _ _ 4
    have gA : Ds K H16 (cutV ws none (some 4)) (ds.take (min 4 ws.length)) := by
      unfold cutV
      rw [HT.sIx_none, c1, List.drop_zero, Nat.sub_zero]
      exact Ds.take g16
    have gB : Ds K H16 (cutV ws (some 4) (some 11)) ((ds.drop (min 4 ws.length)).take (min 11 ws.length - min 4 ws.length)) := by
      unfold cutV
      rw [c3, c2]
      exact Ds.take (Ds.drop g16)
    generalize hA : ds.take (min 4 ws.length) = dA at gA
    generalize hB : (ds.drop (min 4 ws.length)).take (min 11 ws.length - min 4 ws.length) = dB at gB
    have lA : dA.length ≤ 4 := by rw [← hA, List.length_take]; omega
    have lB : dB.length ≤ 7 := by rw [← hB, List.length_take]; omega
    have gAll : Ds K H16 (cutV ws none (some 4) ++ [.ref p11] ++ cutV ws (some 4) (some 11)) (dA ++ [(⟨w, [z, z]⟩ : Deed)] ++ dB) := Ds.app (gA.snoc (Tk.kp k1116 _ _ hd11)) gB
    have okA : ∀ e ∈ dA ++ [(⟨w, [z, z]⟩ : Deed)] ++ dB, e.Ok zs := fun e he => by
      rcases List.mem_append.mp he with he | he
      · rcases List.mem_append.mp he with he | he
        · exact ok7.sc.ok e (List.mem_of_mem_take (by rw [hA]; exact he))
        · rw [List.mem_singleton.mp he]; exact hok
      · exact ok7.sc.ok e (List.mem_of_mem_drop (List.mem_of_mem_take (by rw [hB]; exact he)))
    have lAll : (dA ++ [(⟨w, [z, z]⟩ : Deed)] ++ dB).length ≤ 12 := by simp only [List.length_append, List.length_cons, List.length_nil]; omega
    generalize dA ++ [(⟨w, [z, z]⟩ : Deed)] ++ dB = dd at gAll okA lAll
    refine ⟨q16, dd, rfl, ⟨_, h16, gAll⟩, by omega, fun e he => (okA e he).len.2, fun r o n ys zs2 H17 k17 hr ho hn ay az => ?_⟩
    walk_at "rd"
    refine ⟨r, _, 0, _, rfl, rfl, hr, atI_nat (j := 0) rfl, o, _, rfl, .inr ho, ?_⟩
    walk_at "rd"
    rw [List.length_map, ay.1.length_eq]
    have empty : ∃ (t : Addr) (ds : List Deed) (x6 x7 : Option V), True := ⟨t, ds, none, none, trivial⟩
    refine ite2 (fun _ => ?_) fun h5 => ?_
    · refine ⟨Nat.zero_le _, fun p18 hp18 => ?_⟩
      generalize hG : upd H17 p18 _ = H18
      obtain ⟨k18, e18⟩ := gen_new hp18 hG
      clear hG
      exact ⟨p18, [], _, _, ⟨[], SqT.of e18, .nil⟩, none_ok hnm, rfl⟩
    · refine ⟨r, _, 1, _, rfl, rfl, hr, atI_nat (j := 1) rfl, n, _, rfl, .inr hn, ?_⟩
      walk_at "rd"
      rw [List.length_map, az.1.length_eq]
      refine ite2 (fun _ => ?_) fun h4 => ?_
      · refine ⟨Nat.zero_le _, fun p18 hp18 => ?_⟩
        generalize hG : upd H17 p18 _ = H18
        obtain ⟨k18, e18⟩ := gen_new hp18 hG
        clear hG
        exact ⟨p18, [], _, _, ⟨[], SqT.of e18, .nil⟩, none_ok hnm, rfl⟩
      · have h5 : ¬ (4 : Int) < ((roles dd ([], [])).1.length : Int) := fun e => h5 (decide_eq_true e)
        have h4 : ¬ (3 : Int) < ((roles dd ([], [])).2.length : Int) := fun e => h4 (decide_eq_true e)
        exact ⟨q16, dd, _, _, ⟨_, Tk.kp k17 _ _ h16, gAll.mono (Tk.kp k17)⟩, ⟨⟨okA, by omega, by omega⟩, lAll, hnm⟩, rfl⟩
  · rintro σ H8 ⟨t, ds, x6, x7, hd, ok, rfl⟩
    exact law_rest hd ok q
end
end Tw
set_option Elab.async false
set_option linter.all false
set_option maxRecDepth 100000
set_option maxHeartbeats 4000000
/-! the program's _first_kinds, old_names, new_names -/
namespace Tw
open PySem PySem.Spec PyProof.Rows L2 TL
local macro_rules | `(tactic| walk_at "rd") => `(tactic| try simp only [o_op, o_un, o_var, o_c, o_cb, o_call, o_cons, o_nil, o_tup, o_lst, o_I0, o_I, o_int1, o_intb, o_abs, o_test, o_b, o_not, o_and, o_or, o_andV, o_orV, o_notV, o_ifE, o_isN, o_notN, o_eq, o_ne, o_seq, o_next, o_asg, o_name, o_sub, o_par, o_par3, o_drop, o_ret, o_retN, o_ifS, o_sl, o_noPart, o_part, o_bm, o_bm0, o_m0, o_m1, o_dget, o_dput, o_din, o_dnotin, o_listKeys, e_bl, e_int, e_str, e_some, e_two, e_three, o_for, o_lc, o_iList, o_iTup, o_iRng1, e_int1, e_ref, o_yes, o_wipe0, o_wipe1, o_disp, o_dnew, o_pairs0, o_pairs1, o_lock, o_keysM, o_gtup, o_gcons, o_gnil, o_rU, o_tru, o_revT, o_enumT, o_from, true_and, if_pos, List.getElem?_cons_zero, List.getElem?_cons_succ, List.set_cons_zero, List.set_cons_succ, List.append_nil])
theorem walk_zipS {K : PySem.W.Frag} {x : Str} {b : Addr} {ys : List V} (hn : x.cps.size = ys.length) : Walk (ItzS K x b) ys.length (fun H => SqT K H b ys)
    (fun i H v H' => ∃ T c y, v = .ref T ∧ H T = none ∧ H' = upd H T (.tup [.str ⟨#[c]⟩, y]) ∧ x.cps[i]? = some c ∧ ys[i]? = some y) :=
  ⟨fun i _ hi q => ⟨ys, ys[i], by omega, q, by simp [hi]⟩, fun _ q => ⟨ys, q, by omega, Nat.le_refl _, .inr rfl⟩, fun i H v H' _ q y => by
    obtain ⟨T, c, z, h1, h2, h3, h4, h5⟩ := y
    exact ⟨T, c, z, h1, h2, h3, h4, h5 ys q⟩⟩
theorem forms_all : words.all (fun w => formsL.any fun q => decide (q.1 = w) && (decide (q.2.cps.size = if w ∈ words1 then 1 else 2) && q.2.cps.toList.zipIdx.all fun p => decide ((⟨#[p.1]⟩ : Str) = if p.2 + 1 = madeOf w then ("n" : Str) else ("o" : Str)))) = true := by decide +kernel
/-- what a word's names stand for -/
theorem forms_of {w : Str} (hw : w ∈ words) : ∃ f : Str, (w, f) ∈ formsL ∧ f.cps.size = (if w ∈ words1 then 1 else 2) ∧ ∀ (j c : Nat), f.cps[j]? = some c → (⟨#[c]⟩ : Str) = if j + 1 = madeOf w then ("n" : Str) else ("o" : Str) := by
  have h := List.all_eq_true.mp forms_all w hw
  obtain ⟨q, hq, h⟩ := List.any_eq_true.mp h
  rw [Bool.and_eq_true, Bool.and_eq_true] at h
  obtain ⟨h1, h2, h3⟩ := h
  have e1 := of_decide_eq_true h1
  refine ⟨q.2, by rw [← e1]; exact hq, of_decide_eq_true h2, fun j c hc => ?_⟩
  have hm : (c, j) ∈ q.2.cps.toList.zipIdx := by
    rw [List.mem_zipIdx_iff_getElem?]
    simpa using hc
  exact of_decide_eq_true (List.all_eq_true.mp h3 _ hm)
/-- the kinds of names as they stand for the first time -/
structure Knd (ks : List (Str × Str)) (r : List Str × List Str) : Prop where
  o : (ks.filter fun p => decide (p.2 = ("o" : Str))).map (·.1) = r.1
  n : (ks.filter fun p => decide (p.2 = ("n" : Str))).map (·.1) = r.2
  all : ∀ p ∈ ks, p.2 = ("o" : Str) ∨ p.2 = ("n" : Str)
  nd : (ks.map (·.1)).Nodup
def kd (ks : List (Str × Str)) : List (Str × V) := ks.map fun p => (p.1, .str p.2)
theorem kd_nm (ks : List (Str × Str)) : (kd ks).map (·.1) = ks.map (·.1) := by unfold kd; rw [List.map_map]; rfl
theorem Knd.mem {ks : List (Str × Str)} {r : List Str × List Str} (h : Knd ks r) (z : Str) : z ∈ ks.map (·.1) ↔ z ∈ r.1 ++ r.2 := by
  rw [← h.o, ← h.n]
  constructor
  · intro hz
    obtain ⟨p, hp, rfl⟩ := List.mem_map.mp hz
    rcases h.all p hp with e | e
    · exact List.mem_append_left _ (List.mem_map.mpr ⟨p, List.mem_filter.mpr ⟨hp, by simpa using e⟩, rfl⟩)
    · exact List.mem_append_right _ (List.mem_map.mpr ⟨p, List.mem_filter.mpr ⟨hp, by simpa using e⟩, rfl⟩)
  · intro hz
    rcases List.mem_append.mp hz with hz | hz
    · obtain ⟨p, hp, rfl⟩ := List.mem_map.mp hz
      exact List.mem_map.mpr ⟨p, (List.mem_filter.mp hp).1, rfl⟩
    · obtain ⟨p, hp, rfl⟩ := List.mem_map.mp hz
      exact List.mem_map.mpr ⟨p, (List.mem_filter.mp hp).1, rfl⟩
theorem Knd.nil : Knd [] ([], []) := ⟨rfl, rfl, (fun _ h => by cases h), List.nodup_nil⟩
theorem Knd.len {ks : List (Str × Str)} {r : List Str × List Str} (h : Knd ks r) : ks.length = r.1.length + r.2.length := by
  have : ∀ l : List (Str × Str), (∀ p ∈ l, p.2 = ("o" : Str) ∨ p.2 = ("n" : Str)) → l.length = (l.filter fun p => decide (p.2 = ("o" : Str))).length + (l.filter fun p => decide (p.2 = ("n" : Str))).length := by
    intro l
    induction l with
    | nil => intro _; rfl
    | cons p l ih =>
      intro ha
      have i := ih fun q hq => ha q (List.mem_cons_of_mem _ hq)
      rcases ha p (List.mem_cons_self ..) with e | e
      · have e2 : ¬ p.2 = ("n" : Str) := by rw [e]; decide +kernel
        rw [List.filter_cons_of_pos (by simpa using e), List.filter_cons_of_neg (by simpa using e2), List.length_cons, List.length_cons, i]; omega
      · have e2 : ¬ p.2 = ("o" : Str) := by rw [e]; decide +kernel
        rw [List.filter_cons_of_neg (by simpa using e2), List.filter_cons_of_pos (by simpa using e), List.length_cons, List.length_cons, i]; omega
  rw [this ks h.all, ← h.o, ← h.n, List.length_map, List.length_map]
/-- one more name -/
theorem Knd.step {ks : List (Str × Str)} {r : List Str × List Str} (h : Knd ks r) {z : Str} (hz : z ∉ r.1 ++ r.2) (b : Bool) : Knd (ks ++ [(z, if b then ("n" : Str) else ("o" : Str))]) (if b then (r.1, r.2 ++ [z]) else (r.1 ++ [z], r.2)) := by
  have hz2 : z ∉ ks.map (·.1) := fun q => hz ((h.mem z).mp q)
  have no : ¬ ("n" : Str) = "o" := by decide +kernel
  have on : ¬ ("o" : Str) = "n" := by decide +kernel
  have nd : ((ks ++ [(z, if b then ("n" : Str) else ("o" : Str))]).map (·.1)).Nodup := by
    rw [List.map_append, List.nodup_append]
    refine ⟨h.nd, by simp, fun a ha c hc => ?_⟩
    have hc2 : c = z := by simpa using hc
    rw [hc2]
    exact fun e => hz2 (by rw [← e]; exact ha)
  have al : ∀ p ∈ ks ++ [(z, if b then ("n" : Str) else ("o" : Str))], p.2 = ("o" : Str) ∨ p.2 = ("n" : Str) := fun p hp => by
    rcases List.mem_append.mp hp with hp | hp
    · exact h.all p hp
    · rw [List.mem_singleton.mp hp]; cases b <;> simp
  cases b
  · refine ⟨?_, ?_, al, nd⟩
    · rw [List.filter_append, List.map_append, h.o]; simp
    · rw [List.filter_append, List.map_append, h.n]; simp [on]
  · refine ⟨?_, ?_, al, nd⟩
    · rw [List.filter_append, List.map_append, h.o]; simp [no]
    · rw [List.filter_append, List.map_append, h.n]; simp
def sp_u_first_kinds (K : PySem.W.Frag) : Sp := fun vs H Q _ => ∃ (t : Addr) (ds : List Deed), vs = [.ref t] ∧ DeedsAt K H t ds ∧ (∀ d ∈ ds, ∃ zs, d.Ok zs) ∧ ds.length ≤ 30 ∧
  ∀ (a : Addr) (ks : List (Str × Str)) (H' : Hp), Kp H H' → H a = none → H' a = some (.dK (pk (kd ks))) → Knd ks (roles ds ([], [])) → ks.length ≤ 60 → Q (.ref a) H'
def t_u_first_kinds_b1 (K : PySem.W.Frag) (w : World) (F_FORMS : Addr) : TS :=
  (tDrop (tDSetd (tVar 1) (tVar 4) (tVar 3)))
def t_u_first_kinds_b2 (K : PySem.W.Frag) (w : World) (F_FORMS : Addr) : TS :=
  (tFor (iZipS K (tCons (tOp (rIxD K w) (tC (.ref F_FORMS)) (tOp (rIxT K) (tVar 2) (tC (.int 0)))) (tCons (L2.tSl (rSlA K) (tVar 2) (tPart (tC (.int 1))) tNoPart) tNil))) (gTup K 2 (gCons (gName 3) (gCons (gName 4) gNil)))
  (t_u_first_kinds_b1 K w F_FORMS))
def t_u_first_kinds (K : PySem.W.Frag) (w : World) (F_FORMS : Addr) : TS :=
  (tSeq (tAsg tDNewK (gName 1))
  (tSeq (tFor (iTup K (tVar 0)) (gName 2)
  (t_u_first_kinds_b2 K w F_FORMS))
  (tRet (tVar 1))))
section
variable {K : PySem.W.Frag} {w : World} {F_FORMS : Addr}
theorem o_dsetd {td ty tx : TE} {σ : L2.St} {H : Hp} {Q : VK} : tDSetd td ty tx σ H Q = td σ H fun x H1 => ∃ a, x = .ref a ∧ IsD H1 a ∧ ty σ H1 fun y H2 => tx σ H2 fun z H3 => ∃ (kvs : List (Key × V)) (k : Key), H3 a = some (.dK kvs) ∧ y = kV k ∧ kvs.length < sizeLine ∧
  (∀ v, valV kvs k = some v → Q v H3) ∧ (valV kvs k = none → Q z (upd H3 a (.dK (putK kvs k z)))) := rfl
theorem o_iZipS {ta : TA} {σ : L2.St} {H : Hp} {R : It → Hp → Prop} : iZipS K ta σ H R = ta σ H fun vs H1 => ∃ x b ys, vs = [.str x, .ref b] ∧ SqT K H1 b ys ∧ R (ItzS K x b) H1 := rfl
theorem len_u_first_kinds (vs : List V) (H : Hp) (Q : VK) (E : XK) (h : sp_u_first_kinds K vs H Q E) : vs.length = 1 := by
  obtain ⟨_, _, rfl, _⟩ := h; rfl
theorem cut_tail (x : V) (xs : List V) : cutV (x :: xs) (some 1) none = xs := by
  unfold cutV
  rw [HT.sIx_none, show HT.sIx (x :: xs).length 0 (some (1 : Int)) = min 1 (x :: xs).length from HT.sIx_nat _ _ 1, Nat.min_eq_left (by simp)]
  simp
theorem pure_u_first_kinds (f_FORMS : FormsAt K w F_FORMS formsL) (vs : List V) (H : Hp) (Q : VK) (E : XK) (h : sp_u_first_kinds K vs H Q E) : t_u_first_kinds K w F_FORMS { nx := fun _ H' => Q .non H', rt := Q } (startN 5 vs) H := by
  obtain ⟨t, ds, rfl, ⟨ws, ht, hds⟩, hok, hl, q⟩ := h
  show t_u_first_kinds K w F_FORMS _ [some (.ref t), none, none, none, none] H
  unfold t_u_first_kinds
  have hz := sizeLine_eq
  walk_at "rd"
  refine fun a ha => ?_
  generalize hG : upd H a _ = H1
  obtain ⟨k1, e1⟩ := gen_new ha hG
  clear hG
  refine ⟨⟨_, Tk.kp k1 _ _ ht⟩, ?_⟩
  refine fb_tup (xs := ws) (fun i σ H3 => ∃ (ks : List (Str × Str)) (r : List Str × List Str) (x y z : Option V), Kp H H3 ∧ H3 a = some (.dK (pk (kd ks))) ∧ Knd ks r ∧ roles (ds.drop i) r = roles ds ([], []) ∧ ks.length ≤ 2 * i ∧ i ≤ ds.length ∧ σ = [some (.ref t), some (.ref a), x, y, z]) ?_ ?_ ?_ ?_
  · exact ⟨[], ([], []), _, _, _, k1, e1, .nil, rfl, Nat.le_refl _, Nat.zero_le _, rfl⟩
  · rintro i σ H3 _ ⟨ks, r, x, y, z, k3, _⟩
    exact Tk.kp k3 _ _ ht
  · rintro i v σ H3 hx ⟨ks, r, x, y, z, k3, ha3, hk, heq, hkl, hi, rfl⟩
    obtain ⟨p, d, rfl, hd, hda⟩ := hds.at hx
    rw [drop_at hd] at heq
    have hi2 := (List.getElem?_eq_some_iff.mp hd).1
    obtain ⟨zs, okd⟩ := hok d (List.mem_of_getElem? hd)
    have hdl := okd.len
    have hp3 : SqT K H3 p (.str d.word :: d.names.map V.str) := Tk.kp k3 _ _ hda
    obtain ⟨f, hf, hfl, hfc⟩ := forms_of okd.word
    rw [← okd.many] at hfl
    unfold t_u_first_kinds_b2
    walk_at "rd"
    refine ⟨p, _, 0, _, rfl, rfl, hp3, atI_nat (j := 0) rfl, ?_⟩
    refine ⟨_, _, _, rfl, rfl, f_FORMS.dct hf, ?_⟩
    refine o_slA hp3 fun b H4 k4 hb4 => ?_
    rw [cut_tail] at hb4
    refine ⟨f, b, _, rfl, hb4, ?_⟩
    have k04 : Kp H H4 := fun b o e => k4 _ _ (k3 _ _ e)
    refine fb_walk (walk_zipS (ys := d.names.map V.str) (by rw [List.length_map]; exact hfl)) (fun j σ H6 => ∃ (ks' : List (Str × Str)) (r' : List Str × List Str) (y z : Option V), Kp H H6 ∧ SqT K H6 b (d.names.map V.str) ∧ H6 a = some (.dK (pk (kd ks'))) ∧ Knd ks' r' ∧
      roleNames (madeOf d.word) (1 + j) (d.names.drop j) r' = roleNames (madeOf d.word) 1 d.names r ∧ ks'.length ≤ 2 * i + j ∧ σ = [some (.ref t), some (.ref a), some (.ref p), y, z]) ?_ ?_ ?_ ?_
    · exact ⟨ks, r, _, _, k04, hb4, k4 _ _ ha3, hk, rfl, by omega, rfl⟩
    · rintro j σ H6 _ ⟨ks', r', y, z, k6, hb6, _⟩
      exact hb6
    · rintro j v σ H6 H7 hj ⟨ks', r', y, z, k6, hb6, ha6, hk6, heq6, hl6, rfl⟩ ⟨T, c, y2, rfl, hT, rfl, hc, hy⟩
      rw [List.getElem?_map] at hy
      obtain ⟨n, hn, rfl⟩ := Option.map_eq_some_iff.mp hy
      rw [drop_at hn] at heq6
      generalize hG : upd H6 T _ = H7
      obtain ⟨k7, e7⟩ := gen_new hT hG
      clear hG
      walk_at "rd"
      refine ⟨T, _, rfl, SqT.of e7, rfl, _, _, rfl, _, _, rfl, rfl, ?_⟩
      unfold t_u_first_kinds_b1
      walk_at "rd"
      rw [o_dsetd]
      walk_at "rd"
      have ha7 := k7 _ _ ha6
      have k07 : Kp H H7 := fun b o e => k7 _ _ (k6 _ _ e)
      have step : roleNames (madeOf d.word) (1 + j) (n :: d.names.drop (j + 1)) r' = roleNames (madeOf d.word) (1 + (j + 1)) (d.names.drop (j + 1)) (if n ∈ r'.1 ++ r'.2 then r' else if 1 + j = madeOf d.word then (r'.1, r'.2 ++ [n]) else (r'.1 ++ [n], r'.2)) := rfl
      rw [step] at heq6
      have hj2 : j < d.names.length := by rw [List.length_map] at hj; exact hj
      refine ⟨.inl ⟨_, .inl ha7⟩, _, Sum.inr n, ha7, rfl, by rw [List.length_map]; unfold kd; rw [List.length_map]; omega, fun v hv => ?_, fun hv => ?_⟩
      · have hm : n ∈ r'.1 ++ r'.2 := by
          rw [← hk6.mem]
          refine Classical.byContradiction fun hh => ?_
          rw [pk_none (by rw [kd_nm]; exact hh)] at hv
          cases hv
        rw [if_pos hm] at heq6
        exact ⟨ks', r', _, _, k07, Tk.kp k7 _ _ hb6, ha7, hk6, heq6, by omega, rfl⟩
      · have hm : n ∉ r'.1 ++ r'.2 := by
          rw [← hk6.mem]
          intro hh
          obtain ⟨q2, hq2, eq2⟩ := List.mem_map.mp hh
          have : (n, V.str q2.2) ∈ kd ks' := List.mem_map.mpr ⟨q2, hq2, by rw [eq2]⟩
          rw [pk_some (by rw [kd_nm]; exact hk6.nd) this] at hv
          cases hv
        rw [if_neg hm] at heq6
        generalize hG : upd H7 a _ = H8
        obtain ⟨k8, e8⟩ := gen_chg hG
        clear hG
        rw [putK_new _ hv] at e8
        have hkk := hk6.step hm (decide (j + 1 = madeOf d.word))
        have hcc : (⟨#[c]⟩ : Str) = if decide (j + 1 = madeOf d.word) = true then ("n" : Str) else ("o" : Str) := by rw [hfc j c hc]; simp
        rw [hcc] at e8
        refine ⟨_, _, _, _, fun b o e => k8 _ _ (k07 _ _ e) (ne_of_none e ha), Tk.but (.inr (.inl ⟨_, ha7⟩)) k8 _ _ (Tk.kp k7 _ _ hb6), ?_, hkk, ?_, by rw [List.length_append, List.length_singleton]; omega, rfl⟩
        · rw [e8]; unfold kd; simp
        · rw [← heq6, show 1 + j = j + 1 by omega]
          by_cases hmm : j + 1 = madeOf d.word
          · rw [if_pos hmm, decide_eq_true hmm]; rfl
          · rw [if_neg hmm, decide_eq_false hmm]; rfl
    · rintro σ H6 ⟨ks', r', y, z, k6, hb6, ha6, hk6, heq6, hl6, rfl⟩
      rw [List.length_map, List.drop_length] at heq6
      have e : r' = roleNames (madeOf d.word) 1 d.names r := heq6
      rw [List.length_map] at hl6
      exact ⟨ks', r', _, _, _, k6, ha6, hk6, by rw [e]; exact heq, by omega, by omega, rfl⟩
  · rintro σ H3 ⟨ks, r, x, y, z, k3, ha3, hk, heq, hkl, hi, rfl⟩
    rw [hds.len] at heq hkl
    rw [List.drop_length] at heq
    have e : r = roles ds ([], []) := heq
    walk_at "rd"
    exact q a ks H3 k3 ha ha3 (by rw [← e]; exact hk) (by omega)
def t_old_names (K : PySem.W.Frag) : TS :=
  (tSeq (tAsg (tCall (sp_u_first_kinds K) [] E0 (tCons (tVar 0) tNil)) (gName 1))
  (tRet (tCB (rTupleOf K) (tCons (tCB (rSortedS K) (tCons (tLockE (tLc (iKeys (tVar 1)) (gName 2) (tTest (tOp rEq (tDGet (tVar 1) (tVar 2)) (tC (.str "o")))) (tVar 2) [2])) tNil)) tNil))))
def t_new_names (K : PySem.W.Frag) : TS :=
  (tSeq (tAsg (tCall (sp_u_first_kinds K) [] E0 (tCons (tVar 0) tNil)) (gName 1))
  (tRet (tCB (rTupleOf K) (tCons (tCB (rSortedS K) (tCons (tLockE (tLc (iKeys (tVar 1)) (gName 2) (tTest (tOp rEq (tDGet (tVar 1) (tVar 2)) (tC (.str "n")))) (tVar 2) [2])) tNil)) tNil))))
theorem ks_take {ks : List (Str × Str)} {i : Nat} {p : Str × Str} {v : Str} (h : ks[i]? = some p) : ((ks.take (i + 1)).filter fun p => decide (p.2 = v)).map (·.1) = ((ks.take i).filter fun p => decide (p.2 = v)).map (·.1) ++ (if decide (p.2 = v) then [p.1] else []) := by
  rw [List.take_add_one, h, List.filter_append, List.map_append]
  congr 1
  by_cases e : p.2 = v
  · simp [e]
  · simp [e]
/-- the names of one kind, sorted, as a tuple -/
theorem kinds_rest {H : Hp} {Q : VK} {D : Ends} {a : Addr} {x0 : Option V} {ks : List (Str × Str)} {r : List Str × List Str} (v : Str) (hDr : D.rt = Q) (ha : H a = some (.dK (pk (kd ks)))) (hk : Knd ks r) (hl : ks.length ≤ 60)
    (q : ∀ p ys H', Kp H H' → SqT K H' p (ys.map V.str) → Asc ys ((ks.filter fun p => decide (p.2 = v)).map (·.1)) → Q (.ref p) H') :
    (tRet (tCB (rTupleOf K) (tCons (tCB (rSortedS K) (tCons (tLockE (tLc (iKeys (tVar 1)) (gName 2) (tTest (tOp rEq (tDGet (tVar 1) (tVar 2)) (tC (.str v)))) (tVar 2) [2])) tNil)) tNil))) D [x0, some (.ref a), none] H := by
  have hz := sizeLine_eq
  walk_at "rd"
  rw [o_lockE]
  refine ⟨a, _, ha, trivial, fun od => ?_⟩
  generalize hG : upd H a _ = H3
  obtain ⟨k3, e3⟩ := gen_chg hG
  walk_at "rd"
  rw [o_keysD]
  walk_at "rd"
  refine ⟨a, od, rfl, .inl ⟨_, e3, ?_⟩⟩
  have hkl : (kd ks).length = ks.length := by unfold kd; rw [List.length_map]
  refine lb_walk walk_keys (fun D i H4 => H3 D = none ∧ Kp H3 H4 ∧ H4 D = some (.lst ((((ks.take i).filter fun p => decide (p.2 = v)).map (·.1)).map V.str))) ?_ ?_ ?_ ?_
  · intro D hD
    exact ⟨hD, (show Kp H3 H3 from fun _ _ h => h).new hD, by rw [upd_same]; rfl⟩
  · rintro D i H4 hi ⟨hD, k4, _⟩
    exact k4 _ _ e3
  · rintro D i x H4 H5 hi ⟨hD, k4, h4⟩ ⟨rfl, key, w, hkv, rfl⟩
    unfold pk kd at hkv
    rw [List.map_map, List.getElem?_map, Option.map_eq_some_iff] at hkv
    obtain ⟨p, hp, ep⟩ := hkv
    cases ep
    have hi2 := (List.getElem?_eq_some_iff.mp hp).1
    have hm : p ∈ ks := List.mem_of_getElem? hp
    show gName 2 (.str p.1) _ _ _
    walk_at "rd"
    have hg : DGet H5 a (.str p.1) (some (.str p.2)) := by
      have h : valV (pk (kd ks)) (Sum.inr p.1) = some (.str p.2) := pk_some (by rw [kd_nm]; exact hk.nd) (List.mem_map.mpr ⟨p, hm, rfl⟩)
      exact .inl ⟨_, Sum.inr p.1, .inr ⟨_, k4 _ _ e3⟩, rfl, h.symm⟩
    refine ⟨a, _, rfl, hg, ?_⟩
    walk_at "rd"
    have ev : decide (V.str p.2 = V.str v) = decide (p.2 = v) := by
      by_cases e : p.2 = v
      · rw [e]; simp
      · have e2 : ¬ V.str p.2 = V.str v := fun q => e (V.str.inj q)
        simp [e, e2]
    have hle : (((ks.take i).filter fun p => decide (p.2 = v)).map (·.1)).length ≤ 60 := by
      rw [List.length_map]
      have := List.length_filter_le (fun p : Str × Str => decide (p.2 = v)) (ks.take i)
      rw [List.length_take] at this
      omega
    rw [ks_take hp, ev]
    refine ⟨rfl, ite2 (fun hc => ?_) fun hc => ?_⟩
    · refine ⟨_, h4, by rw [List.length_map]; omega, hD, fun b o e => ?_, ?_⟩
      · rw [upd_ne (ne_of_none e hD)]; exact k4 _ _ e
      · rw [upd_same, if_pos hc]; simp
    · refine ⟨hD, k4, ?_⟩
      rw [if_neg hc, List.append_nil]; exact h4
  · rintro D H4 hD ⟨_, k4, h4⟩
    refine ⟨k4 _ _ e3, ?_⟩
    rw [List.length_map, hkl, List.take_length] at h4
    have hDd : D ≠ a := fun e => by rw [e, e3] at hD; cases hD
    generalize hG2 : upd H4 a _ = H5
    obtain ⟨k5, e5⟩ := gen_chg hG2
    have h5 := k5 _ _ h4 hDd
    refine ⟨D, _, rfl, SqL.of h5, ?_, fun ys p4 a4 b4 hp4 => ?_⟩
    · rw [List.length_map]
      have := List.length_filter_le (fun p : Str × Str => decide (p.2 = v)) ks
      omega
    generalize hG3 : upd H5 p4 _ = H6
    obtain ⟨k6, e6⟩ := gen_new hp4 hG3
    refine ⟨p4, _, rfl, .inl ⟨SqL.of e6, fun p5 hp5 => ?_⟩⟩
    generalize hG4 : upd H6 p5 _ = H7
    obtain ⟨k7, e7⟩ := gen_new hp5 hG4
    rw [hDr]
    refine q p5 ys H7 (fun b o e => k7 _ _ (k6 _ _ ?_)) (SqT.of e7) ⟨a4, b4⟩
    by_cases bd : b = a
    · rw [bd, ha] at e
      rw [bd, e5]; exact e
    · exact k5 _ _ (k4 _ _ (k3 _ _ e bd)) bd
theorem len_old_names (vs : List V) (H : Hp) (Q : VK) (E : XK) (h : sp_old_names K vs H Q E) : vs.length = 1 := by
  obtain ⟨_, _, rfl, _⟩ := h; rfl
theorem len_new_names (vs : List V) (H : Hp) (Q : VK) (E : XK) (h : sp_new_names K vs H Q E) : vs.length = 1 := by
  obtain ⟨_, _, rfl, _⟩ := h; rfl
theorem pure_old_names (vs : List V) (H : Hp) (Q : VK) (E : XK) (h : sp_old_names K vs H Q E) : t_old_names K { nx := fun _ H' => Q .non H', rt := Q } (startN 3 vs) H := by
  obtain ⟨t, ds, rfl, hd, ok, hl, q⟩ := h
  show t_old_names K _ [some (.ref t), none, none] H
  unfold t_old_names
  walk_at "rd"
  refine ⟨t, ds, rfl, hd, ok, hl, fun a ks H1 k1 _ e1 hk hlk => ?_⟩
  refine kinds_rest (D := { nx := fun _ H' => Q .non H', rt := Q }) (Q := Q) "o" rfl e1 hk hlk ?_
  intro p ys H2 k2 h2 hs
  exact q p ys H2 (fun b o e => k2 _ _ (k1 _ _ e)) h2 (by rw [← hk.o]; exact hs)
theorem pure_new_names (vs : List V) (H : Hp) (Q : VK) (E : XK) (h : sp_new_names K vs H Q E) : t_new_names K { nx := fun _ H' => Q .non H', rt := Q } (startN 3 vs) H := by
  obtain ⟨t, ds, rfl, hd, ok, hl, q⟩ := h
  show t_new_names K _ [some (.ref t), none, none] H
  unfold t_new_names
  walk_at "rd"
  refine ⟨t, ds, rfl, hd, ok, hl, fun a ks H1 k1 _ e1 hk hlk => ?_⟩
  refine kinds_rest (D := { nx := fun _ H' => Q .non H', rt := Q }) (Q := Q) "n" rfl e1 hk hlk ?_
  intro p ys H2 k2 h2 hs
  exact q p ys H2 (fun b o e => k2 _ _ (k1 _ _ e)) h2 (by rw [← hk.n]; exact hs)
theorem len_law17 : True := trivial
end
end Tw
set_option Elab.async false
set_option linter.all false
set_option maxRecDepth 100000
set_option maxHeartbeats 4000000
/-! values of any kind, dicts too: what isinstance, in and == with an empty one say of them -/
namespace Tw
open PySem PySem.Spec PyProof.Rows L2 TL
open AutoSeq1 (wpAny_loadPart')
open SeqAt (EqAt RcAt)
theorem sub_str_dict : isSubtype (.type "str") (.type "dict") = pure false := by rw [isSubtype_type]; kernel_rfl
theorem dict_eq_declines_str (l : Addr) (es : Array DictEntry) (n : Nat) (dd : Option Addr) (sl : Array (Option Value)) (b : Str) (u : Tok) :
    Meets (Builtin.«dict.__eq__» ⟨[.ref l, .str b u], []⟩) (fun _ R s => s.heap.get? l = some { cls := .type "dict", dict := dd, data := .dict es n, slots := sl } ∧ R (.ok (.ret .notImplemented)) s) :=
  .of_wp fun prog w A R s h => by obtain ⟨hp, g, d, tk, os⟩ := s; obtain ⟨hl, h⟩ := h; have f1 := sub_str_dict; wp_walk using wpAny_loadPart' hl, wpAny_load hl; exact ⟨_, rfl, h⟩
theorem str_eq_declines_dict (b : Str) (u : Tok) (l : Addr) (es : Array DictEntry) (n : Nat) (dd : Option Addr) (sl : Array (Option Value)) :
    Meets (Builtin.«str.__eq__» ⟨[.str b u, .ref l], []⟩) (fun _ R s => s.heap.get? l = some { cls := .type "dict", dict := dd, data := .dict es n, slots := sl } ∧ R (.ok (.ret .notImplemented)) s) :=
  .of_wp fun prog w A R s h => by obtain ⟨hp, g, d, tk, os⟩ := s; obtain ⟨hl, h⟩ := h; wp_walk using wpAny_loadPart' hl, wpAny_load hl; exact ⟨_, rfl, h⟩
section
variable {A : Around} {s : Shared}
theorem rc_str_dict {l : Addr} {o : Obj} {es : Array DictEntry} {n : Nat} (b : Str) (u : Tok) (ho : s.heap.get? l = some o) (he : o.ExactDict) (hd : o.data = .dict es n) (hu : A.units < cLine) : RcAt A s (.str b u) (.ref l) false := fun prog w E Q h => by
  obtain ⟨cls, dd, data, sl⟩ := o
  obtain ⟨hc, h2, h3⟩ := he
  simp only at hc h2 h3 hd
  subst hc h2 h3 hd
  exact SeqAt.rc_eq_decline_or (k := false) (typeIs_str s b u) ⟨_, ho, rfl⟩ (by decide) (by rw [isSubtype_type]; kernel_rfl) F.slot_str_eq F.slot_dict_eq_refl
    (fun _ hq => call_meets F.slot_str_eq (typeIs_str s b u) F.entry_str_eq (F.args_str_eq_2 _ _) (str_eq_declines_dict b u l es n none #[]) ⟨ho, hq⟩)
    (fun _ hq => call_meets F.slot_dict_eq_refl ⟨_, ho, rfl⟩ F.entry_dict_eq (F.args_dict_eq_2 _ _) (dict_eq_declines_str l es n none #[] b u) ⟨ho, hq⟩)
    (fun _ hq => wpAny_of_eq (rfl : isSame (.str b u) (.ref l) = pure false) hq) (.inr hu) h
theorem eq_str_dict {l : Addr} {o : Obj} {es : Array DictEntry} {n : Nat} (b : Str) (u : Tok) (ho : s.heap.get? l = some o) (he : o.ExactDict) (hd : o.data = .dict es n) (hu : A.units < cLine) : EqAt A s (.str b u) (.ref l) false := fun prog w E Q h => by
  unfold eqBool
  refine wpAny_holding ?_
  refine wpAny_ite_split (fun hab => absurd (eq_of_beq hab) nofun) (fun _ => ?_)
  exact wpAny_bind (rc_str_dict b u ho he hd hu prog w E _ (wpAny_truthy_bool h))
end
/-- no string, no tuple -/
inductive Oth (K : PySem.W.Frag) (H : Hp) : V → Prop where
  | non : Oth K H .non
  | bl (b : Bool) : Oth K H (.bl b)
  | int (i : Int) : Oth K H (.int i)
  | lst {a : Addr} {xs : List V} (h : H a = some (.lst xs)) : Oth K H (.ref a)
  | dic {a : Addr} {kvs : List (Key × V)} (h : H a = some (.dK kvs)) : Oth K H (.ref a)
/-- no string -/
inductive Nt (K : PySem.W.Frag) (H : Hp) : V → Prop where
  | oth {v : V} (h : Oth K H v) : Nt K H v
  | tup {a : Addr} {xs : List V} (h : SqT K H a xs) : Nt K H (.ref a)
theorem Oth.dk {K : PySem.W.Frag} {H H' : Hp} {d : Addr} (k : Dk d H H') {v : V} (h : Oth K H v) (hd : DeckAt H d) : Oth K H' v := by
  cases h with
  | non => exact .non
  | bl b => exact .bl b
  | int i => exact .int i
  | @lst a xs h =>
    by_cases e : a = d
    · obtain ⟨x, y, z, hk⟩ := k.deck
      rw [e]; exact .lst hk
    · exact .lst (k.keep _ _ h e)
  | @dic a kvs h =>
    by_cases e : a = d
    · obtain ⟨x, y, z, hk⟩ := hd
      rw [e, hk] at h; cases h
    · exact .dic (k.keep _ _ h e)
theorem Oth.kp {K : PySem.W.Frag} {H H' : Hp} (k : Kp H H') {v : V} (h : Oth K H v) : Oth K H' v := by
  cases h with
  | non => exact .non
  | bl b => exact .bl b
  | int i => exact .int i
  | lst h => exact .lst (k _ _ h)
  | dic h => exact .dic (k _ _ h)
theorem Nt.kp {K : PySem.W.Frag} {H H' : Hp} (k : Kp H H') {v : V} (h : Nt K H v) : Nt K H' v := by
  cases h with
  | oth h => exact .oth (h.kp k)
  | tup h => exact .tup (Tk.kp k _ _ h)
theorem Nt.dk {K : PySem.W.Frag} {H H' : Hp} {d : Addr} (k : Dk d H H') {v : V} (h : Nt K H v) (hd : DeckAt H d) : Nt K H' v := by
  cases h with
  | oth h => exact .oth (h.dk k hd)
  | tup h => exact .tup (k.tk hd _ _ h)
theorem ty_tup {K : PySem.W.Frag} {H : Hp} {a : Addr} {xs : List V} (h : SqT K H a xs) : TyX K H (.ref a) (.type "tuple") := by
  rcases h with (h | ⟨o, h⟩) | ⟨o, its, n, h, c, _⟩
  · exact .base (.tup h)
  · exact .fTuple h
  · exact .kTuple h c
theorem Oth.ty {K : PySem.W.Frag} {H : Hp} {v : V} (h : Oth K H v) : ∃ t, TyX K H v (.type t) ∧ kitB t "str" = some false ∧ kitB t "tuple" = some false := by
  cases h with
  | non => exact ⟨"NoneType", .base .non, by decide +kernel, by decide +kernel⟩
  | bl b => exact ⟨"bool", .base (.bl b), by decide +kernel, by decide +kernel⟩
  | int i => exact ⟨"int", .base (.int i), by decide +kernel, by decide +kernel⟩
  | lst h => exact ⟨"list", .base (.lst h), by decide +kernel, by decide +kernel⟩
  | dic h => exact ⟨"dict", .base (.dK h), by decide +kernel, by decide +kernel⟩
theorem Nt.noStr {K : PySem.W.Frag} {H : Hp} {v : V} (h : Nt K H v) : NoStr K H v := by
  cases h with
  | oth h => obtain ⟨t, a, b, _⟩ := h.ty; exact ⟨t, a, b⟩
  | tup h => exact ⟨"tuple", ty_tup h, by decide +kernel⟩
theorem o_isiTO {K : PySem.W.Frag} {H : Hp} {Q : VK} {v : V} (h : Oth K H v) (q : Q (.bl false) H) : rIsiB K "tuple" [v, .ty "tuple"] H Q := by
  obtain ⟨t, a, _, b⟩ := h.ty
  exact ⟨_, t, false, rfl, a, b, q⟩
theorem o_isiTS {K : PySem.W.Frag} {H : Hp} {Q : VK} {z : Str} (q : Q (.bl false) H) : rIsiB K "tuple" [.str z, .ty "tuple"] H Q := ⟨_, "str", false, rfl, .base (.str z), by decide +kernel, q⟩
section
variable {X : Cx} {pins : List (Addr × Obj)} {σ : L2.St} {H : Hp} {s : Shared} {k : Nat}
/-- a text is no other value -/
theorem eq_str_nt {A : Around} (I : Inv X pins σ H s) {x : V} {v : Value} (hx : Nt X.K H x) (rx : RelV x v) (b : Str) (u : Tok) (hu : A.units < cLine) : EqAt A s (.str b u) v false := by
  cases hx with
  | oth h => cases h with
    | non => cases rx; exact EqAt.str_none b u
    | bl c => cases rx; exact EqAt.str_bool b u c
    | int i => obtain ⟨t, rfl⟩ := rx; exact EqAt.str_int b u i t
    | @lst a xs h =>
      cases rx
      obtain ⟨its, rv, pl, _⟩ := I.list (SqL.of h)
      exact EqAt.str_list b u pl.isList hu
    | @dic a kvs h =>
      cases rx
      obtain ⟨_, _, vs, _, o, es, ep, eo, ex, ed, _⟩ := dk_of I.hok h
      exact eq_str_dict b u eo ex ed hu
  | @tup a xs h =>
    cases rx
    obtain ⟨its, rv, pl, _⟩ := I.tuple h
    exact EqAt.str_tuple b u pl hu
abbrev rInX (K : PySem.W.Frag) (neg : Bool) : R2 := fun x y H Q => ∃ (p : Addr) (zs : List Str), y = .ref p ∧ SqT K H p (zs.map V.str) ∧ ((∃ z, x = .str z ∧ Q (.bl (neg != decide (z ∈ zs))) H) ∨ (Nt K H x ∧ Q (.bl neg) H))
theorem nt_all {A : Around} (I : Inv X pins σ H s) {x : V} {v : Value} (hx : Nt X.K H x) (rx : RelV x v) (hu : A.units < cLine) : ∀ {zs : List Str} {us : List Value}, Vals (zs.map V.str) us → ∀ u ∈ us, EqAt A s u v false
  | [], _, .nil => fun _ h => by cases h
  | z :: zs, _, .cons r t => fun u hm => by
    rcases List.mem_cons.mp hm with e | hm
    · obtain ⟨t0, e2⟩ := r
      rw [e, e2]
      exact eq_str_nt I hx rx z t0 hu
    · exact nt_all I hx rx hu t u hm
theorem op_notInX (hr : Room k X.A) : OpR X (compareOp .NotIn) (rInX X.K true) := by
  intro pins s σ H x y v u Q I rx ry h
  obtain ⟨p, zs, rfl, hp, h⟩ := h
  rcases h with ⟨z, rfl, q⟩ | ⟨hx, q⟩
  · refine op_notIn_seq pins s σ H _ _ v u Q I rx ry ⟨p, _, rfl, .inr hp, rfl, flat_strs zs, ?_⟩
    simp only [if_true]
    rw [inV_str]; simpa using q
  · cases ry
    obtain ⟨its, rv, pl, _⟩ := I.tuple hp
    refine SeqAt.notIn_tupleAt (fun _ => false) pl (fun w hw => nt_all I hx rx (by have := hr.un; rw [Around.in1_units]; omega) rv w (by simpa using hw)) ⟨.bl _, H, I, rfl, ?_⟩
    have : (its.toArray.any fun _ => false) = false := by simp
    rw [this]; exact q
/-- x == y, y empty -/
abbrev rEqE (K : PySem.W.Frag) (neg : Bool) : R2 := fun x y H Q => ∃ (a b : Addr) (xs : List V), x = .ref a ∧ y = .ref b ∧ ((SqL K H a xs ∧ SqL K H b []) ∨ (neg = false ∧ SqT K H a xs ∧ SqT K H b [])) ∧ Q (.bl (neg != xs.isEmpty)) H
theorem op_eqE (hr : Room k X.A) : OpR X (compareOp .Eq) (rEqE X.K false) := by
  intro pins s σ H x y v u Q I rx ry h
  obtain ⟨a, b, xs, rfl, rfl, h, q⟩ := h
  cases rx
  cases ry
  have hu : X.A.units < cLine := by have := hr.un; omega
  rcases h with ⟨h1, h2⟩ | ⟨_, h1, h2⟩
  · obtain ⟨its, rv, p1, _⟩ := I.list h1
    obtain ⟨its2, rv2, p2, _⟩ := I.list h2
    cases rv2
    cases rv with
    | nil => exact SeqAt.eq_listAt (e := fun _ => true) p1.isList p2.isList rfl hu (fun j h1 _ => absurd h1 (by simp)) ⟨.bl _, H, I, rfl, by simpa using q⟩
    | cons r t => exact SeqAt.eq_list_lengthsAt p1.isList p2.isList (by simp) hu ⟨.bl _, H, I, rfl, by simpa using q⟩
  · obtain ⟨its, rv, p1, _⟩ := I.tuple h1
    obtain ⟨its2, rv2, p2, _⟩ := I.tuple h2
    cases rv2
    refine SeqAt.eq_tupleAt (e := fun _ => true) p1 p2 hu (fun j _ h1 => absurd h1 (by simp)) ⟨.bl _, H, I, rfl, ?_⟩
    cases rv with
    | nil => simpa using q
    | cons r t => simpa using q
theorem op_neE (hr : Room k X.A) : OpR X (compareOp .NotEq) (rEqE X.K true) := by
  intro pins s σ H x y v u Q I rx ry h
  obtain ⟨a, b, xs, rfl, rfl, h, q⟩ := h
  have hu : X.A.units < cLine := by have := hr.un; omega
  rcases h with ⟨h1, h2⟩ | ⟨e, _⟩
  · by_cases hx : xs = []
    · subst hx
      refine op_neB hr pins s σ H _ _ v u Q I rx ry ⟨_, _, .lst h1 .nil, .lst h2 .nil, rfl, rfl, by simp [PyData.depth, PyData.depthAll], by
        have e : PyData.eqv (.list []) (.list []) = true := by simp [PyData.eqv, PyData.eqvAll]
        rw [e]; simpa using q⟩
    · cases rx
      cases ry
      obtain ⟨its, rv, p1, _⟩ := I.list h1
      obtain ⟨its2, rv2, p2, _⟩ := I.list h2
      cases rv2
      obtain ⟨⟨cls, dd, data, sl⟩, ho, hc, n, hd⟩ := id p1.isList
      obtain ⟨⟨cls2, dd2, data2, sl2⟩, ho2, hc2, n2, hd2⟩ := id p2.isList
      simp only at hc hd hc2 hd2
      subst hc hd hc2 hd2
      have hsz : (its.toArray.size != (#[] : Array Value).size) = true := by
        cases rv with
        | nil => exact absurd rfl hx
        | cons r t => simp
      refine richCompare_meets_room (op := .NotEq) ⟨_, ho, rfl⟩ ⟨_, ho2, rfl⟩ F.slot_list_ne F.entry_list_ne (F.args_list_ne_2 _ _) (SeqAt.list_ne_lengthsAt a b its.toArray #[] n n2 dd dd2 sl sl2 hsz)
        ⟨ho, ho2, (fun x => nomatch x), ⟨.bl _, H, I, rfl, ?_⟩⟩ hu
      have : xs.isEmpty = false := by cases xs with
        | nil => exact absurd rfl hx
        | cons _ _ => rfl
      rw [this] at q; exact q
  · cases e
end
end Tw
set_option Elab.async false
set_option linter.all false
set_option maxRecDepth 100000
set_option maxHeartbeats 4000000
/-! odd values, as the laws draw them -/
namespace Tw
open PySem PySem.Spec PyProof.Rows L2 TL
local macro_rules | `(tactic| walk_at "rd") => `(tactic| try simp only [o_op, o_un, o_var, o_c, o_cb, o_call, o_cons, o_nil, o_tup, o_lst, o_I0, o_I, o_int1, o_intb, o_abs, o_test, o_b, o_not, o_and, o_or, o_andV, o_orV, o_notV, o_ifE, o_isN, o_notN, o_eq, o_ne, o_seq, o_next, o_asg, o_name, o_sub, o_par, o_par3, o_drop, o_ret, o_retN, o_ifS, o_sl, o_noPart, o_part, o_bm, o_bm0, o_m0, o_m1, o_dget, o_dput, o_din, o_dnotin, o_listKeys, e_bl, e_int, e_str, e_some, e_two, e_three, o_for, o_lc, o_iList, o_iTup, o_iRng1, e_int1, e_ref, o_yes, o_wipe0, o_wipe1, o_disp, o_dnew, o_pairs0, o_pairs1, o_lock, o_keysM, o_gtup, o_gcons, o_gnil, o_rU, o_tru, o_revT, o_enumT, o_from, true_and, if_pos, List.getElem?_cons_zero, List.getElem?_cons_succ, List.set_cons_zero, List.set_cons_succ, List.append_nil])
/-- an item: a text, or no text -/
def Itm (K : PySem.W.Frag) (H : Hp) (x : V) : Prop := (∃ z : Str, x = .str z ∧ z.length ≤ 1000) ∨ Nt K H x
/-- a value: a text, something else, or a tuple of a few items -/
def Val (K : PySem.W.Frag) (H : Hp) (v : V) : Prop := (∃ z : Str, v = .str z ∧ z.length ≤ 1000) ∨ Oth K H v ∨ ∃ p vs, v = .ref p ∧ SqT K H p vs ∧ vs.length ≤ 30 ∧ ∀ x ∈ vs, Itm K H x
theorem Itm.kp {K : PySem.W.Frag} {H H' : Hp} (k : Kp H H') {v : V} (h : Itm K H v) : Itm K H' v := h.elim .inl fun h => .inr (h.kp k)
theorem Itm.dk {K : PySem.W.Frag} {H H' : Hp} {d : Addr} (k : Dk d H H') (hd : DeckAt H d) {v : V} (h : Itm K H v) : Itm K H' v := h.elim .inl fun h => .inr (h.dk k hd)
theorem Val.kp {K : PySem.W.Frag} {H H' : Hp} (k : Kp H H') {v : V} (h : Val K H v) : Val K H' v := by
  rcases h with h | h | ⟨p, vs, e, h, hl, hi⟩
  · exact .inl h
  · exact .inr (.inl (h.kp k))
  · exact .inr (.inr ⟨p, vs, e, Tk.kp k _ _ h, hl, fun x hx => (hi x hx).kp k⟩)
theorem Val.dk {K : PySem.W.Frag} {H H' : Hp} {d : Addr} (k : Dk d H H') (hd : DeckAt H d) {v : V} (h : Val K H v) : Val K H' v := by
  rcases h with h | h | ⟨p, vs, e, h, hl, hi⟩
  · exact .inl h
  · exact .inr (.inl (h.dk k hd))
  · exact .inr (.inr ⟨p, vs, e, k.tk hd _ _ h, hl, fun x hx => (hi x hx).dk k hd⟩)
theorem Val.itm {K : PySem.W.Frag} {H : Hp} {v : V} (h : Val K H v) : Itm K H v := by
  rcases h with h | h | ⟨p, vs, rfl, h, _⟩
  · exact .inl h
  · exact .inr (.oth h)
  · exact .inr (.tup h)
/-- a value whose items are values -/
def Val2 (K : PySem.W.Frag) (H : Hp) (v : V) : Prop := (∃ z : Str, v = .str z ∧ z.length ≤ 1000) ∨ Oth K H v ∨ ∃ p vs, v = .ref p ∧ SqT K H p vs ∧ vs.length ≤ 30 ∧ ∀ x ∈ vs, Val K H x
theorem Val2.kp {K : PySem.W.Frag} {H H' : Hp} (k : Kp H H') {v : V} (h : Val2 K H v) : Val2 K H' v := by
  rcases h with h | h | ⟨p, vs, e, h, hl, hi⟩
  · exact .inl h
  · exact .inr (.inl (h.kp k))
  · exact .inr (.inr ⟨p, vs, e, Tk.kp k _ _ h, hl, fun x hx => (hi x hx).kp k⟩)
theorem Val2.dk {K : PySem.W.Frag} {H H' : Hp} {d : Addr} (k : Dk d H H') (hd : DeckAt H d) {v : V} (h : Val2 K H v) : Val2 K H' v := by
  rcases h with h | h | ⟨p, vs, e, h, hl, hi⟩
  · exact .inl h
  · exact .inr (.inl (h.dk k hd))
  · exact .inr (.inr ⟨p, vs, e, k.tk hd _ _ h, hl, fun x hx => (hi x hx).dk k hd⟩)
theorem Val2.val {K : PySem.W.Frag} {H : Hp} {v : V} (h : Val2 K H v) : Val K H v := by
  rcases h with h | h | ⟨p, vs, e, h, hl, hi⟩
  · exact .inl h
  · exact .inr (.inl h)
  · exact .inr (.inr ⟨p, vs, e, h, hl, fun x hx => (hi x hx).itm⟩)
/-- a reading that yields what P says, and keeps all -/
def Gd (P : Hp → V → Prop) (t : TE) : Prop := ∀ σ H Q, (∀ v H', Kp H H' → P H' v → Q v H') → t σ H Q
def GdA (P : Hp → V → Prop) (n : Nat) (t : TA) : Prop := ∀ σ H Q, (∀ vs H', Kp H H' → vs.length = n → (∀ x ∈ vs, P H' x) → Q vs H') → t σ H Q
theorem Kp.rfl' {H : Hp} : Kp H H := fun _ _ h => h
section
variable {K : PySem.W.Frag} {P : Hp → V → Prop}
theorem gd_nil : GdA P 0 tNil := fun σ H Q q => q [] H Kp.rfl' rfl fun _ h => by cases h
theorem gd_cons (st : ∀ H H' v, Kp H H' → P H v → P H' v) {n : Nat} {t : TE} {r : TA} (h1 : Gd P t) (h2 : GdA P n r) : GdA P (n + 1) (tCons t r) := fun σ H Q q =>
  h1 σ H _ fun v H1 k1 p1 => h2 σ H1 _ fun vs H2 k2 hl p2 => q (v :: vs) H2 (fun b o e => k2 _ _ (k1 _ _ e)) (by rw [List.length_cons, hl]) fun x hx => by
    rcases List.mem_cons.mp hx with e | hx
    · rw [e]; exact st _ _ _ k2 p1
    · exact p2 x hx
theorem gd_c {v : V} (h : ∀ H, P H v) : Gd P (tC v) := fun σ H Q q => q v H Kp.rfl' (h H)
theorem gd_lst {P' : Hp → V → Prop} {n : Nat} {t : TA} (h : GdA P' n t) (hn : n ≤ 1000) (h2 : ∀ H p xs, H p = some (.lst xs) → P H (.ref p)) : Gd P (tLst t) := fun σ H Q q =>
  h σ H _ fun vs H1 k1 hl p1 => ⟨by have := sizeLine_eq; omega, fun p hp => by
    generalize hG : upd H1 p _ = H2
    obtain ⟨k2, e2⟩ := gen_new hp hG
    exact q _ H2 (fun b o e => k2 _ _ (k1 _ _ e)) (h2 _ _ _ e2)⟩
theorem gd_tup {P' : Hp → V → Prop} {n : Nat} {t : TA} (st : ∀ H H' v, Kp H H' → P' H v → P' H' v) (h : GdA P' n t) (hn : n ≤ 1000) (h2 : ∀ H p xs, SqT K H p xs → xs.length = n → (∀ x ∈ xs, P' H x) → P H (.ref p)) : Gd P (tTup t) := fun σ H Q q =>
  h σ H _ fun vs H1 k1 hl p1 => ⟨by have := sizeLine_eq; omega, fun p hp => by
    generalize hG : upd H1 p _ = H2
    obtain ⟨k2, e2⟩ := gen_new hp hG
    exact q _ H2 (fun b o e => k2 _ _ (k1 _ _ e)) (h2 _ _ _ (SqT.of e2) hl fun x hx => st _ _ _ k2 (p1 x hx))⟩
theorem gd_dnew (h2 : ∀ H p xs, H p = some (.dK xs) → P H (.ref p)) : Gd P tDNewK := fun σ H Q q => fun p hp => by
  generalize hG : upd H p _ = H2
  obtain ⟨k2, e2⟩ := gen_new hp hG
  exact q _ H2 k2 (h2 _ _ _ e2)
/-- a display of constants -/
theorem gd_disp (kvs : List (Key × V)) (hl : kvs.length ≤ 15) (h2 : ∀ H p xs, H p = some (.dK xs) → P H (.ref p)) : Gd P (tDisp (kvs.map fun kv => (tC (kV kv.1), tC kv.2))) := fun σ H Q q => fun p hp => by
  generalize hG : upd H p _ = H2
  obtain ⟨k2, e2⟩ := gen_new hp hG
  have key : ∀ (l : List (Key × V)) (R : List (V × V) → Hp → Prop), R (l.map fun kv => (kV kv.1, kv.2)) H2 → tPairs (l.map fun kv => (tC (kV kv.1), tC kv.2)) σ H2 R := by
    intro l
    induction l with
    | nil => intro R h; exact h
    | cons x l ih => intro R h; exact ih _ h
  refine key kvs _ ⟨e2, kvs, rfl, hl, ?_⟩
  generalize hG : upd H2 p _ = H3
  obtain ⟨k3, e3⟩ := gen_chg hG
  exact q _ H3 (fun b o e => k3 _ _ (k2 _ _ e) (ne_of_none e hp)) (h2 _ _ _ e3)
end
def sp_l_odd (K : PySem.W.Frag) : Sp := fun vs H Q _ => ∃ a : Addr, vs = [.ref a] ∧ DeckAt H a ∧ ∀ v H', Dk a H H' → Val2 K H' v → Q v H'
def t_l_odd (K : PySem.W.Frag) : TS :=
  (tSeq (tAsg (tLst (tCons (tC .non) (tCons (tC (.bl true)) (tCons (tC (.bl false)) (tCons (tC (.int 0)) (tCons (tC (.int 1)) (tCons (tOp (rI0 fun i j => .int (i - j)) (tC (.int 0)) (tC (.int 7))) (tCons (tOp (rI CPow fun i j => .int (i ^ j.toNat)) (tC (.int 10)) (tC (.int 39))) (tCons (tC (.str "")) (tCons (tC (.str "A")) (tCons (tC (.str "a ")) (tCons (tC (.str "+a")) (tCons (tC (.str "aaaaaaaaa")) (tCons (tC (.str "a1")) (tCons (tC (.str "z")) (tCons (tC (.str "zzzzzzzz")) tNil)))))))))))))))) (gName 1))
  (tSeq (tAsg (tOp rCat (tVar 1) (tLst (tCons (tC (.str "`")) (tCons (tC (.str "a\n")) (tCons (tC (.str "{")) (tCons (tC (.str "a{")) (tCons (tLst (tCons (tC (.str "z")) (tCons (tTup tNil) tNil))) (tCons (tDisp [((tC (.str "a")), (tC (.int 1))), ((tC (.str "b")), (tC (.int 2)))]) tNil)))))))) (gName 1))
  (tSeq (tAsg (tOp rCat (tVar 1) (tLst (tCons (tTup (tCons (tC (.str "a")) tNil)) (tCons (tTup (tCons (tC (.str "z")) (tCons (tTup tNil) tNil))) (tCons (tLst (tCons (tC (.str "a")) tNil)) (tCons (tLst tNil) (tCons tDNewK (tCons (tDisp [((tC (.str "a")), (tC (.int 1)))]) (tCons (tTup tNil) (tCons (tTup (tCons (tTup tNil) (tCons (tTup tNil) tNil))) (tCons (tTup (tCons (tTup (tCons (tC (.str "z")) (tCons (tTup tNil) tNil))) tNil)) (tCons (tC (.str "first")) tNil)))))))))))) (gName 1))
  (tRet (tCall (sp_l_pick K) [] E0 (tCons (tVar 0) (tCons (tVar 1) tNil)))))))
section
variable {K : PySem.W.Frag}
theorem vst : ∀ H H' v, Kp H H' → Val K H v → Val K H' v := fun _ _ _ k h => h.kp k
theorem ist : ∀ H H' v, Kp H H' → Itm K H v → Itm K H' v := fun _ _ _ k h => h.kp k
theorem gv_s {z : Str} (h : z.length ≤ 1000 := by decide +kernel) : Gd (Val K) (tC (.str z)) := gd_c fun _ => .inl ⟨z, rfl, h⟩
theorem gi_s {z : Str} (h : z.length ≤ 1000 := by decide +kernel) : Gd (Itm K) (tC (.str z)) := gd_c fun _ => .inl ⟨z, rfl, h⟩
theorem gi_t0 : Gd (Itm K) (tTup tNil) := gd_tup (K := K) (P' := Itm K) ist gd_nil (by decide) fun _ _ _ h _ _ => .inr (.tup h)
theorem gi_t {n : Nat} {t : TA} (h : GdA (Itm K) n t) (hn : n ≤ 1000 := by decide) : Gd (Itm K) (tTup t) := gd_tup (K := K) (P' := Itm K) ist h hn fun _ _ _ h _ _ => .inr (.tup h)
theorem gv_t {n : Nat} {t : TA} (h : GdA (Itm K) n t) (hn : n ≤ 10 := by decide) : Gd (Val K) (tTup t) := gd_tup (K := K) (P' := Itm K) ist h (by omega) fun _ p xs h hl hi => .inr (.inr ⟨p, xs, rfl, h, by omega, hi⟩)
theorem gv_l {n : Nat} {t : TA} (h : GdA (Itm K) n t) (hn : n ≤ 1000 := by decide) : Gd (Val K) (tLst t) := gd_lst h hn fun _ _ _ h => .inr (.inl (.lst h))
theorem v2st : ∀ H H' v, Kp H H' → Val2 K H v → Val2 K H' v := fun _ _ _ k h => h.kp k
theorem g2_s {z : Str} (h : z.length ≤ 1000 := by decide +kernel) : Gd (Val2 K) (tC (.str z)) := gd_c fun _ => .inl ⟨z, rfl, h⟩
theorem g2_t {n : Nat} {t : TA} (h : GdA (Val K) n t) (hn : n ≤ 10 := by decide) : Gd (Val2 K) (tTup t) := gd_tup (K := K) (P' := Val K) vst h (by omega) fun _ p xs h hl hi => .inr (.inr ⟨p, xs, rfl, h, by omega, hi⟩)
theorem g2_l {n : Nat} {t : TA} (h : GdA (Itm K) n t) (hn : n ≤ 1000 := by decide) : Gd (Val2 K) (tLst t) := gd_lst h hn fun _ _ _ h => .inr (.inl (.lst h))
theorem g2_d (kvs : List (Key × V)) (hl : kvs.length ≤ 15 := by decide) : Gd (Val2 K) (tDisp (kvs.map fun kv => (tC (kV kv.1), tC kv.2))) := gd_disp kvs hl fun _ _ _ h => .inr (.inl (.dic h))
theorem gv_d (kvs : List (Key × V)) (hl : kvs.length ≤ 15 := by decide) : Gd (Val K) (tDisp (kvs.map fun kv => (tC (kV kv.1), tC kv.2))) := gd_disp kvs hl fun _ _ _ h => .inr (.inl (.dic h))
theorem ga_some1 : GdA (Val2 K) 15 (tCons (tC .non) (tCons (tC (.bl true)) (tCons (tC (.bl false)) (tCons (tC (.int 0)) (tCons (tC (.int 1)) (tCons (tOp (rI0 fun i j => .int (i - j)) (tC (.int 0)) (tC (.int 7))) (tCons (tOp (rI CPow fun i j => .int (i ^ j.toNat)) (tC (.int 10)) (tC (.int 39))) (tCons (tC (.str "")) (tCons (tC (.str "A")) (tCons (tC (.str "a ")) (tCons (tC (.str "+a")) (tCons (tC (.str "aaaaaaaaa")) (tCons (tC (.str "a1")) (tCons (tC (.str "z")) (tCons (tC (.str "zzzzzzzz")) tNil))))))))))))))) := by
  refine gd_cons v2st (gd_c fun _ => .inr (.inl .non)) (gd_cons v2st (gd_c fun _ => .inr (.inl (.bl _))) (gd_cons v2st (gd_c fun _ => .inr (.inl (.bl _))) (gd_cons v2st (gd_c fun _ => .inr (.inl (.int _))) (gd_cons v2st (gd_c fun _ => .inr (.inl (.int _))) (gd_cons v2st ?_ (gd_cons v2st ?_
    (gd_cons v2st g2_s (gd_cons v2st g2_s (gd_cons v2st g2_s (gd_cons v2st g2_s (gd_cons v2st g2_s (gd_cons v2st g2_s (gd_cons v2st g2_s (gd_cons v2st g2_s gd_nil))))))))))))))
  · intro σ H Q q
    walk_at "rd"
    exact q _ H Kp.rfl' (.inr (.inl (.int _)))
  · intro σ H Q q
    walk_at "rd"
    exact ⟨by unfold CPow; decide, q _ H Kp.rfl' (.inr (.inl (.int _)))⟩
theorem ga_some2 : GdA (Val2 K) 6 (tCons (tC (.str "`")) (tCons (tC (.str "a\n")) (tCons (tC (.str "{")) (tCons (tC (.str "a{")) (tCons (tLst (tCons (tC (.str "z")) (tCons (tTup tNil) tNil))) (tCons (tDisp [((tC (.str "a")), (tC (.int 1))), ((tC (.str "b")), (tC (.int 2)))]) tNil)))))) :=
  gd_cons v2st g2_s (gd_cons v2st g2_s (gd_cons v2st g2_s (gd_cons v2st g2_s (gd_cons v2st (g2_l (gd_cons ist gi_s (gd_cons ist gi_t0 gd_nil))) (gd_cons v2st (g2_d [(Sum.inr "a", .int 1), (Sum.inr "b", .int 2)]) gd_nil)))))
theorem ga_some3 : GdA (Val2 K) 10 (tCons (tTup (tCons (tC (.str "a")) tNil)) (tCons (tTup (tCons (tC (.str "z")) (tCons (tTup tNil) tNil))) (tCons (tLst (tCons (tC (.str "a")) tNil)) (tCons (tLst tNil) (tCons tDNewK (tCons (tDisp [((tC (.str "a")), (tC (.int 1)))]) (tCons (tTup tNil) (tCons (tTup (tCons (tTup tNil) (tCons (tTup tNil) tNil))) (tCons (tTup (tCons (tTup (tCons (tC (.str "z")) (tCons (tTup tNil) tNil))) tNil)) (tCons (tC (.str "first")) tNil)))))))))) :=
  gd_cons v2st (g2_t (gd_cons vst gv_s gd_nil)) (gd_cons v2st (g2_t (gd_cons vst gv_s (gd_cons vst (gv_t gd_nil) gd_nil))) (gd_cons v2st (g2_l (gd_cons ist gi_s gd_nil)) (gd_cons v2st (g2_l gd_nil) (gd_cons v2st (gd_dnew fun _ _ _ h => .inr (.inl (.dic h))) (gd_cons v2st (g2_d [(Sum.inr "a", .int 1)]) (gd_cons v2st (g2_t gd_nil)
    (gd_cons v2st (g2_t (gd_cons vst (gv_t gd_nil) (gd_cons vst (gv_t gd_nil) gd_nil))) (gd_cons v2st (g2_t (gd_cons vst (gv_t (gd_cons ist gi_s (gd_cons ist gi_t0 gd_nil))) gd_nil)) (gd_cons v2st g2_s gd_nil)))))))))
theorem len_l_odd (vs : List V) (H : Hp) (Q : VK) (E : XK) (h : sp_l_odd K vs H Q E) : vs.length = 1 := by
  obtain ⟨_, rfl, _⟩ := h; rfl
theorem pure_l_odd (vs : List V) (H : Hp) (Q : VK) (E : XK) (h : sp_l_odd K vs H Q E) : t_l_odd K { nx := fun _ H' => Q .non H', rt := Q } (startN 2 vs) H := by
  obtain ⟨a, rfl, hd, q⟩ := h
  show t_l_odd K _ [some (.ref a), none] H
  unfold t_l_odd
  have hz := sizeLine_eq
  rw [o_seq, o_asg, o_lst]
  refine ga_some1 (K := K) _ _ _ fun xs1 H1 k1 l1 g1 => ⟨by omega, fun p1 hp1 => ?_⟩
  generalize hG : upd H1 p1 _ = H2
  obtain ⟨k2, e2⟩ := gen_new hp1 hG
  clear hG
  have k02 : Kp H H2 := fun b o e => k2 _ _ (k1 _ _ e)
  simp only [o_name, List.set_cons_zero, List.set_cons_succ]
  rw [o_seq, o_asg, o_op, o_var]
  refine ⟨_, rfl, ?_⟩
  rw [o_lst]
  refine ga_some2 (K := K) _ _ _ fun xs2 H3 k3 l3 g3 => ⟨by omega, fun p2 hp2 => ?_⟩
  generalize hG : upd H3 p2 _ = H4
  obtain ⟨k4, e4⟩ := gen_new hp2 hG
  clear hG
  have k24 : Kp H2 H4 := fun b o e => k4 _ _ (k3 _ _ e)
  refine ⟨p1, p2, _, _, rfl, rfl, k24 _ _ e2, e4, by omega, fun p3 hp3 => ?_⟩
  generalize hG : upd H4 p3 _ = H5
  obtain ⟨k5, e5⟩ := gen_new hp3 hG
  clear hG
  simp only [o_name, List.set_cons_zero, List.set_cons_succ]
  rw [o_seq, o_asg, o_op, o_var]
  refine ⟨_, rfl, ?_⟩
  rw [o_lst]
  refine ga_some3 (K := K) _ _ _ fun xs3 H6 k6 l6 g6 => ⟨by omega, fun p4 hp4 => ?_⟩
  generalize hG : upd H6 p4 _ = H7
  obtain ⟨k7, e7⟩ := gen_new hp4 hG
  clear hG
  have k57 : Kp H5 H7 := fun b o e => k7 _ _ (k6 _ _ e)
  refine ⟨p3, p4, _, _, rfl, rfl, k57 _ _ e5, e7, by rw [List.length_append]; omega, fun p5 hp5 => ?_⟩
  generalize hG : upd H7 p5 _ = H8
  obtain ⟨k8, e8⟩ := gen_new hp5 hG
  clear hG
  have k08 : Kp H H8 := fun b o e => k8 _ _ (k57 _ _ (k5 _ _ (k24 _ _ (k02 _ _ e))))
  obtain ⟨x0, y0, z0, hdd⟩ := hd
  have hd8 : DeckAt H8 a := ⟨x0, y0, z0, k08 _ _ hdd⟩
  have h5a : p5 ≠ a := fun e => by
    have := k57 _ _ (k5 _ _ (k24 _ _ (k02 _ _ hdd)))
    rw [← e, hp5] at this; cases this
  walk_at "rd"
  refine ⟨a, p5, _, rfl, hd8, SqL.of e8, h5a, fun e => ?_, by rw [List.length_append, List.length_append]; omega, fun x H9 hx k9 => ?_⟩
  · have := congrArg List.length e
    rw [List.length_append, List.length_append, List.length_nil] at this; omega
  · refine q x H9 ⟨fun b o e n => k9.keep _ _ (k08 _ _ e) n, k9.deck⟩ (Val2.dk k9 hd8 ?_)
    rcases List.mem_append.mp hx with hx | hx
    · rcases List.mem_append.mp hx with hx | hx
      · exact (g1 x hx).kp fun b o e => k8 _ _ (k57 _ _ (k5 _ _ (k24 _ _ (k2 _ _ e))))
      · exact (g3 x hx).kp fun b o e => k8 _ _ (k57 _ _ (k5 _ _ (k4 _ _ e)))
    · exact (g6 x hx).kp fun b o e => k8 _ _ (k7 _ _ e)
end
end Tw
set_option Elab.async false
set_option linter.all false
set_option maxRecDepth 100000
set_option maxHeartbeats 4000000
/-! what is a deed: the program's deed_error, the laws' own -/
namespace Tw
open PySem PySem.Spec PyProof.Rows L2 TL
local macro_rules | `(tactic| walk_at "rd") => `(tactic| try simp only [o_op, o_un, o_var, o_c, o_cb, o_call, o_cons, o_nil, o_tup, o_lst, o_I0, o_I, o_int1, o_intb, o_abs, o_test, o_b, o_not, o_and, o_or, o_andV, o_orV, o_notV, o_ifE, o_isN, o_notN, o_eq, o_ne, o_seq, o_next, o_asg, o_name, o_sub, o_par, o_par3, o_drop, o_ret, o_retN, o_ifS, o_sl, o_noPart, o_part, o_bm, o_bm0, o_m0, o_m1, o_dget, o_dput, o_din, o_dnotin, o_listKeys, e_bl, e_int, e_str, e_some, e_two, e_three, o_for, o_lc, o_iList, o_iTup, o_iRng1, e_int1, e_ref, o_yes, o_wipe0, o_wipe1, o_disp, o_dnew, o_pairs0, o_pairs1, o_lock, o_keysM, o_gtup, o_gcons, o_gnil, o_rU, o_tru, o_revT, o_enumT, o_from, true_and, if_pos, List.getElem?_cons_zero, List.getElem?_cons_succ, List.set_cons_zero, List.set_cons_succ, List.append_nil])
theorem alpha128 : ∀ c : Fin 128, (Unicode.isAlpha c.val && !(Unicode.isUpper c.val || Unicode.isTitle c.val)) = true → 97 ≤ c.val ∧ c.val ≤ 122 := by decide +kernel
theorem name_of_B {z : Str} (h : nameB z = true) : IsName z := by
  unfold nameB Txt.isascii Txt.isalpha Txt.islower at h
  simp only [Bool.and_eq_true, Bool.not_eq_true', decide_eq_true_eq, decide_eq_false_iff_not, ← Array.all_toList, ← Array.any_toList, List.all_eq_true, List.any_eq_false, List.any_eq_true, Bool.or_eq_true, not_or] at h
  obtain ⟨h8, ha, ⟨hne, hal⟩, _, hup⟩ := h
  refine ⟨by omega, by omega, fun c hc => ?_⟩
  have h1 := ha c hc
  have h2 := hal c hc
  have h3 := hup c hc
  have := alpha128 ⟨c, h1⟩ (by simp only [Bool.and_eq_true, Bool.not_eq_true', Bool.or_eq_false_iff]; exact ⟨h2, by simpa using h3.1, by simpa using h3.2⟩)
  exact this
theorem letters_mem (c : Nat) : c ∈ ("abcdefghijklmnopqrstuvwxyz" : Str).cps.toList ↔ 97 ≤ c ∧ c ≤ 122 := by
  have e : ("abcdefghijklmnopqrstuvwxyz" : Str).cps.toList = List.range' 97 26 := by decide +kernel
  rw [e, List.mem_range'_1]; omega
abbrev rInSign : R2 := fun x y H Q => ∃ (c : Nat) (z : Str), x = .str ⟨#[c]⟩ ∧ y = .str z ∧ Q (.bl (decide (c ∈ z.cps.toList))) H
abbrev rNotInSign : R2 := fun x y H Q => ∃ (c : Nat) (z : Str), x = .str ⟨#[c]⟩ ∧ y = .str z ∧ Q (.bl (!decide (c ∈ z.cps.toList))) H
/-- a name among values -/
def isNm : V → Bool
  | .str z => nameB z
  | _ => false
theorem Nt.isNm {K : PySem.W.Frag} {H : Hp} {v : V} (h : Nt K H v) : isNm v = false := by
  cases h with
  | oth h => cases h <;> rfl
  | tup h => rfl
/-- what is told of a tuple's items -/
def dueT : List V → V
  | .str w :: r => if w ∈ words then if r.length = (if w ∈ words1 then 1 else 2) then if r.all isNm then .non else .str "name" else .str "deed" else .str "deed"
  | _ => .str "deed"
def sp_l_is_name (K : PySem.W.Frag) : Sp := fun vs H Q _ => ∃ x, vs = [x] ∧ Itm K H x ∧ ∀ H', Kp H H' → Q (.bl (isNm x)) H'
/-- a value handed to a judge of deeds -/
def Judge (K : PySem.W.Frag) (v : V) (H : Hp) (Q : VK) : Prop := Val K H v ∧ ∀ H', Kp H H' → Q (match v with | .ref _ => .non | _ => .non) H' → True
def sp_deed_error (K : PySem.W.Frag) : Sp := fun vs H Q _ => ∃ v, vs = [v] ∧ ((((∃ z : Str, v = .str z) ∨ Oth K H v) ∧ ∀ H', Kp H H' → Q (.str "deed") H') ∨ ∃ p xs, v = .ref p ∧ SqT K H p xs ∧ xs.length ≤ 30 ∧ (∀ x ∈ xs, Itm K H x) ∧ ∀ H', Kp H H' → Q (dueT xs) H')
abbrev sp_l_deed_error (K : PySem.W.Frag) : Sp := sp_deed_error K
def begB : List V → Bool
  | .str w :: r => decide (w ∈ words) && decide (r.length = if w ∈ words1 then 1 else 2)
  | _ => false
def sp_u_begins_well (K : PySem.W.Frag) : Sp := fun vs H Q _ => ∃ p xs, vs = [.ref p] ∧ SqT K H p xs ∧ xs.length ≤ 30 ∧ (∀ x ∈ xs, Itm K H x) ∧ Q (.bl (begB xs)) H
def t_l_is_name (K : PySem.W.Frag) : TS :=
  (tSeq (tIfS (tOr (tNot (tB (tIsi K "str" (tVar 0)))) (tOr (tTest (tOp rEq (tVar 0) (tC (.str "")))) (tTest (tOp (rI0 fun i j => .bl (decide (j < i))) (tCB rLenStr (tCons (tVar 0) tNil)) (tC (.int 8)))))) (tRet (tC (.bl false))) tNext)
  (tRet (tOp (rEqE K false) (tLc (iStr (tVar 0)) (gName 1) (tTest (tOp rNotInSign (tVar 1) (tC (.str "abcdefghijklmnopqrstuvwxyz")))) (tVar 1) [1]) (tLst tNil))))
def t_l_deed_error (K : PySem.W.Frag) : TS :=
  (tSeq (tIfS (tOr (tNot (tB (tIsi K "tuple" (tVar 0)))) (tOr (tTest (tOp (rEqE K false) (tVar 0) (tTup tNil))) (tNot (tB (tIsi K "str" (tOp (rIxT K) (tVar 0) (tC (.int 0)))))))) (tRet (tC (.str "deed"))) tNext)
  (tSeq (tIfS (tTest (tOp (rIn K true) (tOp (rIxT K) (tVar 0) (tC (.int 0))) (tCall (sp_l_words K) [] E0 tNil))) (tRet (tC (.str "deed"))) tNext)
  (tSeq (tIfS (tTest (tOp rNe (tCB (rLenSeq K) (tCons (tVar 0) tNil)) (tOp (rI0 fun i j => .int (i - j)) (tC (.int 3)) (tCB rInt1 (tCons (tOp (rIn K false) (tOp (rIxT K) (tVar 0) (tC (.int 0))) (tTup (tCons (tC (.str "front")) (tCons (tC (.str "back")) (tCons (tC (.str "lift")) (tCons (tC (.str "cut")) tNil)))))) tNil))))) (tRet (tC (.str "deed"))) tNext)
  (tSeq (tAsg (tLc (iTup K (L2.tSl (rSlA K) (tVar 0) (tPart (tC (.int 1))) tNoPart)) (gName 2) (tNot (tB (tCall (sp_l_is_name K) [] E0 (tCons (tVar 2) tNil)))) (tVar 2) [2]) (gName 1))
  (tRet (tIf (tTest (tOp (rEqE K true) (tVar 1) (tLst tNil))) (tC (.str "name")) (tC .non)))))))
def t_deed_error (K : PySem.W.Frag) : TS :=
  (tSeq (tIfS (tOr (tNot (tB (tIsi K "tuple" (tVar 0)))) (tNot (tB (tCall (sp_u_begins_well K) [] E0 (tCons (tVar 0) tNil))))) (tRet (tC (.str "deed"))) tNext)
  (tRet (tIf (tB (tCB (rAll K) (tCons (tLc (iTup K (L2.tSl (rSlA K) (tVar 0) (tPart (tC (.int 1))) tNoPart)) (gName 1) tYes (tCall (sp_is_name K) [] E0 (tCons (tVar 1) tNil)) [1]) tNil))) (tC .non) (tC (.str "name")))))
def t_u_begins_well (K : PySem.W.Frag) (w : World) (F_FORMS : Addr) : TS :=
  (tSeq (tIfS (tOr (tNot (tTru K (tVar 0))) (tOr (tNot (tB (tIsi K "str" (tOp (rIxT K) (tVar 0) (tC (.int 0)))))) (tTest (tOp (rInF true F_FORMS formsL) (tOp (rIxT K) (tVar 0) (tC (.int 0))) (tC (.ref F_FORMS)))))) (tRet (tC (.bl false))) tNext)
  (tRet (tOp rEq (tCB (rLenSeq K) (tCons (tVar 0) tNil)) (tOp (rI0 fun i j => .int (i + j)) (tC (.int 1)) (tCB rLenStr (tCons (tOp (rIxD K w) (tC (.ref F_FORMS)) (tOp (rIxT K) (tVar 0) (tC (.int 0)))) tNil))))))
section
variable {K : PySem.W.Frag} {w : World} {F_FORMS : Addr}
theorem len_l_is_name (vs : List V) (H : Hp) (Q : VK) (E : XK) (h : sp_l_is_name K vs H Q E) : vs.length = 1 := by
  obtain ⟨_, rfl, _⟩ := h; rfl
theorem len_deed_error (vs : List V) (H : Hp) (Q : VK) (E : XK) (h : sp_deed_error K vs H Q E) : vs.length = 1 := by
  obtain ⟨_, rfl, _⟩ := h; rfl
theorem len_l_deed_error (vs : List V) (H : Hp) (Q : VK) (E : XK) (h : sp_l_deed_error K vs H Q E) : vs.length = 1 := len_deed_error vs H Q E h
theorem len_u_begins_well (vs : List V) (H : Hp) (Q : VK) (E : XK) (h : sp_u_begins_well K vs H Q E) : vs.length = 1 := by
  obtain ⟨_, _, rfl, _⟩ := h; rfl
/-- the signs that are no letters, up to a place -/
def badS (z : Str) (i : Nat) : List V := ((z.cps.toList.take i).filter fun c => !decide (97 ≤ c ∧ c ≤ 122)).map fun c => V.str ⟨#[c]⟩
theorem badS_all (z : Str) : (badS z z.cps.size).isEmpty = decide (∀ c ∈ z.cps.toList, 97 ≤ c ∧ c ≤ 122) := by
  unfold badS
  have e : z.cps.toList.take z.cps.size = z.cps.toList := by rw [List.take_of_length_le]; simp
  rw [e, Bool.eq_iff_iff, decide_eq_true_eq, List.isEmpty_iff, List.map_eq_nil_iff, List.filter_eq_nil_iff]
  simp
theorem nameB_iff (z : Str) : nameB z = true ↔ IsName z := ⟨name_of_B, nameB_of⟩
theorem not_name {z : Str} (h : ¬ IsName z) : nameB z = false := by
  cases e : nameB z with
  | false => rfl
  | true => exact absurd (name_of_B e) h
theorem badS_le (z : Str) (i : Nat) : (badS z i).length ≤ i := by
  unfold badS
  rw [List.length_map]
  have := List.length_filter_le (fun c => !decide (97 ≤ c ∧ c ≤ 122)) (z.cps.toList.take i)
  rw [List.length_take] at this
  omega
theorem badS_step {z : Str} {i c : Nat} (h : z.cps[i]? = some c) : badS z (i + 1) = badS z i ++ if decide (97 ≤ c ∧ c ≤ 122) then [] else [V.str ⟨#[c]⟩] := by
  have h2 : z.cps.toList[i]? = some c := by simpa using h
  unfold badS
  rw [List.take_add_one, h2, List.filter_append, List.map_append]
  congr 1
  by_cases e : 97 ≤ c ∧ c ≤ 122
  · simp [e]
  · simp [e]; omega
theorem pure_l_is_name (vs : List V) (H : Hp) (Q : VK) (E : XK) (h : sp_l_is_name K vs H Q E) : t_l_is_name K { nx := fun _ H' => Q .non H', rt := Q } (startN 2 vs) H := by
  obtain ⟨x, rfl, hx, q⟩ := h
  show t_l_is_name K _ [some x, none] H
  unfold t_l_is_name
  have hz := sizeLine_eq
  walk_at "rd"
  rcases hx with ⟨z, rfl, hl⟩ | hx
  · refine o_isiS ?_
    walk_at "rd"
    simp only [Bool.not_true, Bool.false_eq_true, if_false]
    refine ⟨rfl, ite2 (fun he => ?_) fun he => ?_⟩
    · have e := V.str.inj (of_decide_eq_true he)
      have : nameB z = false := by rw [e]; decide +kernel
      have q1 := q H Kp.rfl'
      rw [show isNm (V.str z) = nameB z from rfl, this] at q1
      exact q1
    refine ⟨z, rfl, by omega, ?_⟩
    walk_at "rd"
    refine ite2 (fun h8 => ?_) fun h8 => ?_
    · have h8 := of_decide_eq_true h8
      have : nameB z = false := not_name fun n => by have := n.eight; omega
      have q1 := q H Kp.rfl'
      rw [show isNm (V.str z) = nameB z from rfl, this] at q1
      exact q1
    have h8 : z.length ≤ 8 := by
      have : ¬ (8 : Int) < z.length := fun e => h8 (decide_eq_true e)
      omega
    have hne : ¬ z = ("" : Str) := fun e => he (decide_eq_true (by rw [e]))
    refine ⟨.str z, rfl, z, rfl, ?_⟩
    refine lb_walk walk_str (fun D i H2 => H D = none ∧ Kp H H2 ∧ H2 D = some (.lst (badS z i))) ?_ ?_ ?_ ?_
    · intro D hD
      exact ⟨hD, Kp.rfl'.new hD, by rw [upd_same]; rfl⟩
    · intro D i H2 hi _; trivial
    · rintro D i x H2 H3 hi ⟨hD, k2, h2⟩ ⟨rfl, c, hc, rfl⟩
      show gName 1 (.str ⟨#[c]⟩) _ _ _
      walk_at "rd"
      refine ⟨c, _, rfl, rfl, ?_⟩
      rw [show decide (c ∈ ("abcdefghijklmnopqrstuvwxyz" : Str).cps.toList) = decide (97 ≤ c ∧ c ≤ 122) from by rw [decide_eq_decide]; exact letters_mem c]
      rw [badS_step hc]
      have hb := badS_le z i
      refine ⟨_, rfl, ?_⟩
      cases hd : decide (97 ≤ c ∧ c ≤ 122) with
      | true =>
        simp only [Bool.not_true, Bool.false_eq_true, if_false, if_true, List.append_nil]
        exact ⟨hD, k2, h2⟩
      | false =>
        simp only [Bool.not_false, if_true, Bool.false_eq_true, if_false]
        have : z.cps.size = z.length := rfl
        exact ⟨_, h2, by omega, hD, fun b o e => by rw [upd_ne (ne_of_none e hD)]; exact k2 _ _ e, by rw [upd_same]⟩
    · rintro D H2 hD ⟨_, k2, h2⟩
      refine ⟨Nat.zero_le _, fun p hp => ?_⟩
      generalize hG : upd H2 p _ = H3
      obtain ⟨k3, e3⟩ := gen_new hp hG
      clear hG
      refine ⟨D, p, _, rfl, rfl, .inl ⟨SqL.of (k3 _ _ h2), SqL.of e3⟩, ?_⟩
      rw [badS_all]
      have e : (false != decide (∀ c ∈ z.cps.toList, 97 ≤ c ∧ c ≤ 122)) = isNm (V.str z) := by
        show _ = nameB z
        have h1 : 1 ≤ z.length := by
          rcases Nat.eq_zero_or_pos z.length with h0 | h0
          · exact absurd (str_ext (by
              have : z.cps.toList.length = 0 := by rw [← len_tl]; exact h0
              rw [List.eq_nil_of_length_eq_zero this]; rfl)) hne
          · exact h0
        rw [Bool.eq_iff_iff, nameB_iff]
        constructor
        · intro h
          exact ⟨h1, h8, by simpa using h⟩
        · intro h
          have := h.let_
          simpa using this
      rw [e]
      exact q H3 fun b o e => k3 _ _ (k2 _ _ e)
  · refine o_isiN hx.noStr ?_
    walk_at "rd"
    rw [hx.isNm] at q
    simpa using q H Kp.rfl'
theorem keys_words : formsL.map (·.1) = words := rfl
theorem pure_u_begins_well (f_FORMS : FormsAt K w F_FORMS formsL) (vs : List V) (H : Hp) (Q : VK) (E : XK) (h : sp_u_begins_well K vs H Q E) : t_u_begins_well K w F_FORMS { nx := fun _ H' => Q .non H', rt := Q } (startN 1 vs) H := by
  obtain ⟨p, xs, rfl, hp, hl, hi, q⟩ := h
  show t_u_begins_well K w F_FORMS _ [some (.ref p)] H
  unfold t_u_begins_well
  have hz := sizeLine_eq
  walk_at "rd"
  refine ⟨_, .inr (.inl ⟨xs, hp, rfl⟩), ?_⟩
  cases xs with
  | nil => rw [show begB [] = false from rfl] at q; simpa using q
  | cons x r =>
    simp only [List.isEmpty_cons, Bool.not_false, Bool.not_true, Bool.false_eq_true, if_false]
    have h0 : atI (x :: r) 0 = some x := atI_nat (j := 0) rfl
    refine ⟨p, _, 0, x, rfl, rfl, hp, h0, ?_⟩
    rcases hi x (List.mem_cons_self ..) with ⟨z, rfl, hzl⟩ | hx
    · refine o_isiS ?_
      walk_at "rd"
      simp only [Bool.not_true, Bool.false_eq_true, if_false]
      refine ⟨p, _, 0, _, rfl, rfl, hp, h0, z, rfl, rfl, ?_⟩
      walk_at "rd"
      rw [keys_words]
      by_cases hw : z ∈ words
      · rw [decide_eq_true hw]
        simp only [Bool.bne_true, Bool.not_true, Bool.false_eq_true, if_false]
        obtain ⟨f, hf, hfl, _⟩ := forms_of hw
        refine ⟨p, _, rfl, .inr hp, p, _, 0, _, rfl, rfl, hp, h0, F_FORMS, z, _, rfl, rfl, f_FORMS.dct hf, f, rfl, ?_, ?_⟩
        · show f.cps.size ≤ _
          rw [hfl]; split <;> omega
        walk_at "rd"
        refine ⟨rfl, ?_⟩
        have e : decide (V.int ((V.str z :: r).length : Int) = V.int (1 + (f.length : Int))) = begB (V.str z :: r) := by
          show _ = (decide (z ∈ words) && decide (r.length = if z ∈ words1 then 1 else 2))
          rw [decide_eq_true hw, Bool.true_and, decide_eq_decide, ← hfl]
          constructor
          · intro h
            have := V.int.inj h
            rw [List.length_cons] at this
            have h2 : f.length = f.cps.size := rfl
            omega
          · intro h
            rw [List.length_cons, h]
            have h2 : f.length = f.cps.size := rfl
            congr 1; omega
        rw [e]; exact q
      · rw [decide_eq_false hw]
        have e : begB (V.str z :: r) = false := by
          show (decide (z ∈ words) && _) = false
          rw [decide_eq_false hw]; rfl
        rw [e] at q
        simpa using q
    · refine o_isiN hx.noStr ?_
      walk_at "rd"
      have e : begB (x :: r) = false := by
        cases hx with
        | oth h => cases h <;> rfl
        | tup h => rfl
      rw [e] at q
      simpa using q
theorem due_beg {xs : List V} (h : begB xs = false) : dueT xs = .str "deed" := by
  match xs, h with
  | [], _ => rfl
  | .str w :: r, h =>
    have h2 : (decide (w ∈ words) && decide (r.length = if w ∈ words1 then 1 else 2)) = false := h
    show (if w ∈ words then _ else _) = _
    by_cases hw : w ∈ words
    · rw [if_pos hw]
      rw [decide_eq_true hw, Bool.true_and, decide_eq_false_iff_not] at h2
      rw [if_neg h2]
    · rw [if_neg hw]
  | .non :: _, _ => rfl
  | .bl _ :: _, _ => rfl
  | .int _ :: _, _ => rfl
  | .byt _ :: _, _ => rfl
  | .flt _ :: _, _ => rfl
  | .ref _ :: _, _ => rfl
  | .ty _ :: _, _ => rfl
theorem beg_cons {xs : List V} (h : begB xs = true) : ∃ w r, xs = .str w :: r ∧ w ∈ words ∧ r.length = (if w ∈ words1 then 1 else 2) ∧ dueT xs = if r.all isNm then .non else .str "name" := by
  match xs, h with
  | .str w :: r, h =>
    have h2 : (decide (w ∈ words) && decide (r.length = if w ∈ words1 then 1 else 2)) = true := h
    rw [Bool.and_eq_true, decide_eq_true_eq, decide_eq_true_eq] at h2
    refine ⟨w, r, rfl, h2.1, h2.2, ?_⟩
    show (if w ∈ words then _ else _) = _
    rw [if_pos h2.1, if_pos h2.2]
theorem itm_is {K : PySem.W.Frag} {H : Hp} {Q : VK} {E : XK} {x : V} (h : Itm K H x) (q : Q (.bl (isNm x)) H) : sp_is_name K [x] H Q E := by
  rcases h with ⟨z, rfl, hz⟩ | h
  · exact ⟨_, rfl, .inl ⟨z, rfl, by have := sizeLine_eq; omega, q⟩⟩
  · rw [h.isNm] at q
    exact ⟨_, rfl, .inr ⟨h.noStr, q⟩⟩
theorem pure_deed_error (vs : List V) (H : Hp) (Q : VK) (E : XK) (h : sp_deed_error K vs H Q E) : t_deed_error K { nx := fun _ H' => Q .non H', rt := Q } (startN 2 vs) H := by
  obtain ⟨v, rfl, h⟩ := h
  show t_deed_error K _ [some v, none] H
  unfold t_deed_error
  have hz := sizeLine_eq
  walk_at "rd"
  rcases h with ⟨hv, q⟩ | ⟨p, xs, rfl, hp, hl, hi, q⟩
  · have : rIsiB K "tuple" [v, .ty "tuple"] H = fun Q => rIsiB K "tuple" [v, .ty "tuple"] H Q := rfl
    rcases hv with ⟨z, rfl⟩ | hv
    · refine o_isiTS ?_
      walk_at "rd"
      simpa using q H Kp.rfl'
    · refine o_isiTO hv ?_
      walk_at "rd"
      simpa using q H Kp.rfl'
  · refine o_isiT hp ?_
    walk_at "rd"
    simp only [Bool.not_true, Bool.false_eq_true, if_false]
    refine ⟨p, xs, rfl, hp, hl, hi, ?_⟩
    walk_at "rd"
    cases hb : begB xs with
    | false =>
      rw [due_beg hb] at q
      simpa using q H Kp.rfl'
    | true =>
      obtain ⟨w, r, rfl, hw, hrl, hd⟩ := beg_cons hb
      rw [hd] at q
      simp only [Bool.not_true, Bool.false_eq_true, if_false]
      refine o_slA hp fun b H1 k1 hb1 => ?_
      rw [cut_tail] at hb1
      refine ⟨b, rfl, ⟨_, hb1⟩, ?_⟩
      rw [List.length_cons] at hl
      refine lb_walk (n := r.length) walk_tup (fun D i H2 => H1 D = none ∧ Kp H1 H2 ∧ H2 D = some (.lst (((r.take i).map isNm).map V.bl))) ?_ ?_ ?_ ?_
      · intro D hD
        exact ⟨hD, Kp.rfl'.new hD, by rw [upd_same]; rfl⟩
      · rintro D i H2 _ ⟨hD, k2, _⟩
        exact Tk.kp k2 _ _ hb1
      · rintro D i x H2 H3 hi2 ⟨hD, k2, h2⟩ ⟨rfl, hx⟩
        show gName 1 x _ _ _
        walk_at "rd"
        have hix := (hi x (List.mem_cons_of_mem _ (List.mem_of_getElem? hx))).kp (fun b o e => k2 _ _ (k1 _ _ e))
        refine itm_is hix ?_
        refine ⟨_, h2, by rw [List.length_map, List.length_map, List.length_take]; omega, hD, fun b o e => ?_, ?_⟩
        · rw [upd_ne (ne_of_none e hD)]; exact k2 _ _ e
        · rw [upd_same, List.take_add_one, hx]; simp
      · rintro D H2 hD ⟨_, k2, h2⟩
        rw [List.take_length] at h2
        refine ⟨D, _, rfl, SqL.of h2, ?_⟩
        walk_at "rd"
        have q2 := q H2 fun b o e => k2 _ _ (k1 _ _ e)
        rw [List.all_map, Function.id_comp]
        cases hr : r.all isNm <;> rw [hr] at q2 <;> exact q2
theorem pure_l_deed_error (vs : List V) (H : Hp) (Q : VK) (E : XK) (h : sp_l_deed_error K vs H Q E) : t_l_deed_error K { nx := fun _ H' => Q .non H', rt := Q } (startN 3 vs) H := by
  obtain ⟨v, rfl, h⟩ := h
  show t_l_deed_error K _ [some v, none, none] H
  unfold t_l_deed_error
  have hz := sizeLine_eq
  walk_at "rd"
  rcases h with ⟨hv, q⟩ | ⟨p, xs, rfl, hp, hl, hi, q⟩
  · rcases hv with ⟨z, rfl⟩ | hv
    · refine o_isiTS ?_
      walk_at "rd"
      simpa using q H Kp.rfl'
    · refine o_isiTO hv ?_
      walk_at "rd"
      simpa using q H Kp.rfl'
  · refine o_isiT hp ?_
    walk_at "rd"
    simp only [Bool.not_true, Bool.false_eq_true, if_false]
    refine ⟨Nat.zero_le _, fun e hee => ?_⟩
    generalize hG : upd H e _ = H1
    obtain ⟨k1, e1⟩ := gen_new hee hG
    clear hG
    have hp1 := Tk.kp k1 _ _ hp
    refine ⟨p, e, xs, rfl, rfl, .inr ⟨rfl, hp1, SqT.of e1⟩, ?_⟩
    walk_at "rd"
    have hi1 : ∀ x ∈ xs, Itm K H1 x := fun x hx => (hi x hx).kp k1
    cases xs with
    | nil =>
      have q1 := q H1 k1
      rw [show dueT [] = .str "deed" from rfl] at q1
      simpa using q1
    | cons x r =>
      simp only [List.isEmpty_cons, Bool.bne_false, Bool.false_eq_true, if_false]
      have h0 : atI (x :: r) 0 = some x := atI_nat (j := 0) rfl
      refine ⟨p, _, 0, x, rfl, rfl, hp1, h0, ?_⟩
      rcases hi1 x (List.mem_cons_self ..) with ⟨z, rfl, hzl⟩ | hx
      · refine o_isiS ?_
        walk_at "rd"
        simp only [Bool.not_true, Bool.false_eq_true, if_false]
        refine ⟨p, _, 0, _, rfl, rfl, hp1, h0, rfl, fun wl H2 k2 _ ew => ?_⟩
        refine o_notinL ew ?_
        walk_at "rd"
        have hp2 := Tk.kp k2 _ _ hp1
        by_cases hw : z ∈ words
        · rw [decide_eq_true hw]
          simp only [Bool.not_true, Bool.false_eq_true, if_false]
          refine ⟨p, _, rfl, .inr hp2, p, _, 0, _, rfl, rfl, hp2, h0, by show 4 ≤ sizeLine; omega, fun f hf => ?_⟩
          generalize hG : upd H2 f _ = H3
          obtain ⟨k3, e3⟩ := gen_new hf hG
          clear hG
          refine ⟨f, _, rfl, .inr (SqT.of e3), rfl, rfl, ?_⟩
          walk_at "rd"
          have hp3 := Tk.kp k3 _ _ hp2
          have k03 : Kp H H3 := fun b o e => k3 _ _ (k2 _ _ (k1 _ _ e))
          have ei : inV (V.str z) [V.str "front", V.str "back", V.str "lift", V.str "cut"] = decide (z ∈ words1) := inV_str z words1
          simp only [Bool.false_eq_true, if_false]
          rw [ei]
          have ec : decide (V.int ((V.str z :: r).length : Int) = V.int (3 - if decide (z ∈ words1) = true then 1 else 0)) = decide (r.length = if z ∈ words1 then 1 else 2) := by
            rw [decide_eq_decide]
            by_cases h1 : z ∈ words1
            · simp only [h1, decide_true, if_true]
              constructor
              · intro h; have := V.int.inj h; rw [List.length_cons] at this; omega
              · intro h; rw [List.length_cons, h]; rfl
            · simp only [h1, decide_false, Bool.false_eq_true, if_false]
              constructor
              · intro h; have := V.int.inj h; rw [List.length_cons] at this; omega
              · intro h; rw [List.length_cons, h]; rfl
          refine ⟨rfl, ?_⟩
          rw [ec]
          by_cases hrl : r.length = if z ∈ words1 then 1 else 2
          · rw [decide_eq_true hrl]
            simp only [Bool.not_true, Bool.false_eq_true, if_false]
            have hd : dueT (V.str z :: r) = if r.all isNm then .non else .str "name" := by
              show (if z ∈ words then _ else _) = _
              rw [if_pos hw, if_pos hrl]
            rw [hd] at q
            refine o_slA hp3 fun b H4 k4 hb4 => ?_
            rw [cut_tail] at hb4
            refine ⟨b, rfl, ⟨_, hb4⟩, ?_⟩
            rw [List.length_cons] at hl
            refine lb_walk (n := r.length) walk_tup (fun D i H5 => H4 D = none ∧ Kp H4 H5 ∧ H5 D = some (.lst ((r.take i).filter fun v => !isNm v))) ?_ ?_ ?_ ?_
            · intro D hD
              exact ⟨hD, Kp.rfl'.new hD, by rw [upd_same]; rfl⟩
            · rintro D i H5 _ ⟨hD, k5, _⟩
              exact Tk.kp k5 _ _ hb4
            · rintro D i x H5 H6 hi2 ⟨hD, k5, h5⟩ ⟨rfl, hx⟩
              show gName 2 x _ _ _
              walk_at "rd"
              have hix := (hi x (List.mem_cons_of_mem _ (List.mem_of_getElem? hx))).kp (fun b o e => k5 _ _ (k4 _ _ (k03 _ _ e)))
              refine ⟨x, rfl, hix, fun H7 k7 => ?_⟩
              walk_at "rd"
              have h7 := k7 _ _ h5
              have hle : ((r.take i).filter fun v => !isNm v).length ≤ 30 := by
                have := List.length_filter_le (fun v => !isNm v) (r.take i)
                rw [List.length_take] at this
                omega
              have estep : (r.take (i + 1)).filter (fun v => !isNm v) = (r.take i).filter (fun v => !isNm v) ++ if !isNm x then [x] else [] := by
                rw [List.take_add_one, hx, List.filter_append]
                cases hn : isNm x <;> simp [hn]
              rw [estep]
              cases hn : isNm x with
              | true =>
                simp only [Bool.not_true, Bool.false_eq_true, if_false, List.append_nil]
                exact ⟨hD, fun b o e => k7 _ _ (k5 _ _ e), h7⟩
              | false =>
                simp only [Bool.not_false, if_true]
                exact ⟨_, h7, by omega, hD, fun b o e => by rw [upd_ne (ne_of_none e hD)]; exact k7 _ _ (k5 _ _ e), by rw [upd_same]⟩
            · rintro D H5 hD ⟨_, k5, h5⟩
              rw [List.take_length] at h5
              refine ⟨Nat.zero_le _, fun pe hpe => ?_⟩
              generalize hG : upd H5 pe _ = H6
              obtain ⟨k6, e6⟩ := gen_new hpe hG
              clear hG
              refine ⟨D, pe, _, rfl, rfl, .inl ⟨SqL.of (k6 _ _ h5), SqL.of e6⟩, ?_⟩
              walk_at "rd"
              have q2 := q H6 fun b o e => k6 _ _ (k5 _ _ (k4 _ _ (k03 _ _ e)))
              have ea : ((r.filter fun v => !isNm v).isEmpty) = r.all isNm := by
                rw [Bool.eq_iff_iff, List.isEmpty_iff, List.filter_eq_nil_iff, List.all_eq_true]
                simp
              rw [ea]
              cases hr : r.all isNm <;> rw [hr] at q2 <;> simpa using q2
          · rw [decide_eq_false hrl]
            have e : dueT (V.str z :: r) = .str "deed" := due_beg (by
              show (_ && decide (r.length = if z ∈ words1 then 1 else 2)) = false
              rw [decide_eq_false hrl, Bool.and_false])
            rw [e] at q
            simpa using q H3 k03
        · rw [decide_eq_false hw]
          have e : dueT (V.str z :: r) = .str "deed" := due_beg (by
            show (decide (z ∈ words) && _) = false
            rw [decide_eq_false hw]; rfl)
          rw [e] at q
          simpa using q H2 fun b o e => k2 _ _ (k1 _ _ e)
      · refine o_isiN hx.noStr ?_
        walk_at "rd"
        have e : dueT (x :: r) = .str "deed" := by
          cases hx with
          | oth h => cases h <;> rfl
          | tup h => rfl
        rw [e] at q
        simpa using q H1 k1
end
end Tw
set_option Elab.async false
set_option linter.all false
set_option maxRecDepth 100000
set_option maxHeartbeats 4000000
/-! rows of any items: where they cease to be the row of a wood -/
namespace Tw
open PySem PySem.Spec PyProof.Rows L2 TL
local macro_rules | `(tactic| walk_at "rd") => `(tactic| try simp only [o_op, o_un, o_var, o_c, o_cb, o_call, o_cons, o_nil, o_tup, o_lst, o_I0, o_I, o_int1, o_intb, o_abs, o_test, o_b, o_not, o_and, o_or, o_andV, o_orV, o_notV, o_ifE, o_isN, o_notN, o_eq, o_ne, o_seq, o_next, o_asg, o_name, o_sub, o_par, o_par3, o_drop, o_ret, o_retN, o_ifS, o_sl, o_noPart, o_part, o_bm, o_bm0, o_m0, o_m1, o_dget, o_dput, o_din, o_dnotin, o_listKeys, e_bl, e_int, e_str, e_some, e_two, e_three, o_for, o_lc, o_iList, o_iTup, o_iRng1, e_int1, e_ref, o_yes, o_wipe0, o_wipe1, o_disp, o_dnew, o_pairs0, o_pairs1, o_lock, o_keysM, o_gtup, o_gcons, o_gnil, o_rU, o_tru, o_revT, o_enumT, o_from, true_and, if_pos, List.getElem?_cons_zero, List.getElem?_cons_succ, List.set_cons_zero, List.set_cons_succ, List.append_nil])
/-- an item as an end -/
def endV : V → Option En
  | .str z => if endB z = true then some (decide (z.cps.toList.head? = some 43), cutS z (some 1) none) else none
  | _ => none
theorem endB_en {z : Str} (h : endB z = true) : ∃ e : En, z = en e ∧ IsName e.2 ∧ endV (.str z) = some e := by
  have h0 := h
  unfold endB at h
  obtain ⟨h1, h2⟩ := Bool.and_eq_true_iff.mp h
  rw [show ([V.str "+", V.str "-"] : List V) = (["+", "-"] : List Str).map V.str from rfl, inV_str] at h1
  have h3 : cutS z none (some 1) = ("+" : Str) ∨ cutS z none (some 1) = ("-" : Str) := by simpa using h1
  have key : ∃ b : Bool, z.cps.toList = (if b then 43 else 45) :: z.cps.toList.drop 1 := by
    rcases h3 with h3 | h3
    · refine ⟨true, ?_⟩
      have : z.cps.toList.take 1 = [43] := by rw [← cut0, h3]; decide +kernel
      cases hz : z.cps.toList with
      | nil => rw [hz] at this; cases this
      | cons c r => rw [hz] at this; simp at this; simp [this]
    · refine ⟨false, ?_⟩
      have : z.cps.toList.take 1 = [45] := by rw [← cut0, h3]; decide +kernel
      cases hz : z.cps.toList with
      | nil => rw [hz] at this; cases this
      | cons c r => rw [hz] at this; simp at this; simp [this]
  obtain ⟨b, hb⟩ := key
  refine ⟨(b, cutS z (some 1) none), str_ext ?_, name_of_B h2, ?_⟩
  · rw [en_codes, cut1]; exact hb
  · show (if endB z = true then _ else _) = _
    rw [if_pos h0, hb]
    cases b <;> rfl
theorem endV_str {z : Str} {e : En} (h : endV (.str z) = some e) : z = en e ∧ IsName e.2 ∧ endB z = true := by
  have h1 : (if endB z = true then some (decide (z.cps.toList.head? = some 43), cutS z (some 1) none) else none) = some e := h
  by_cases hb : endB z = true
  · obtain ⟨e2, a, b, c⟩ := endB_en hb
    rw [c] at h; cases h; exact ⟨a, b, hb⟩
  · rw [if_neg hb] at h1; cases h1
theorem endV_none {z : Str} (h : endV (.str z) = none) : endB z = false := by
  cases hb : endB z with
  | false => rfl
  | true => obtain ⟨e, _, _, c⟩ := endB_en hb; rw [c] at h; cases h
theorem endV_en {e : En} (h : IsName e.2) : endV (.str (en e)) = some e := by
  obtain ⟨e2, a, b, c⟩ := endB_en (en_end h)
  have : en e = en e2 → e = e2 := fun q => by
    have h1 := congrArg (fun s : Str => s.cps.toList) q
    simp only [en_codes] at h1
    obtain ⟨h2, h3⟩ := List.cons.inj h1
    obtain ⟨b1, n1⟩ := e
    obtain ⟨b2, n2⟩ := e2
    have hn : n1 = n2 := str_ext h3
    have hb : b1 = b2 := by
      cases b1 <;> cases b2 <;> first | rfl | (simp at h2)
    rw [hn, hb]
  rw [this a]; rw [this a] at c; exact c
/-- where it ceases, k items behind; seen: the names that began, st: those that are open, the outermost first -/
def plc : List (Option En) → Nat → List Str → List Str → Option Nat
  | [], k, _, st => if st = [] then none else some k
  | none :: _, k, _, _ => some k
  | some (true, n) :: r, k, seen, st => if n ∈ seen ∨ st.length = 100 then some k else plc r (k + 1) (seen ++ [n]) (st ++ [n])
  | some (false, n) :: r, k, seen, st => if st.getLast? = some n then plc r (k + 1) seen st.dropLast else some k
def oi : Option Nat → V
  | none => .non
  | some k => .int (k : Int)
/-! ### none: it is the row of a wood -/
/-- the ends that led to this state -/
def bak : List (Fo × Str) → Fo → List En
  | [], c => c.erow
  | (l, n) :: zs, c => bak zs l ++ (true, n) :: c.erow
def DpK : List (Fo × Str) → Fo → Prop
  | [], c => c.dp ≤ 100
  | (l, n) :: zs, c => c.dp + (zs.length + 1) ≤ 100 ∧ DpK zs l
theorem DpK.here : ∀ {zs : List (Fo × Str)} {c : Fo}, DpK zs c → c.dp + zs.length ≤ 100
  | [], c, h => h
  | (l, n) :: zs, c, h => h.1
theorem DpK.set : ∀ {zs : List (Fo × Str)} {c d : Fo}, DpK zs c → d.dp + zs.length ≤ 100 → DpK zs d
  | [], c, d, _, h => h
  | (l, n) :: zs, c, d, h, h2 => ⟨h2, h.2⟩
theorem erow_app : ∀ f g : Fo, (f.app g).erow = f.erow ++ g.erow
  | .nil, _ => rfl
  | .cons n ks r, g => by simp only [Fo.app, Fo.erow, erow_app r g, List.cons_append, List.append_assoc]
theorem dp_app : ∀ f g : Fo, (f.app g).dp = max f.dp g.dp
  | .nil, _ => by simp [Fo.app, Fo.dp]
  | .cons n ks r, g => by simp only [Fo.app, Fo.dp, dp_app r g]; omega
theorem bak_app : ∀ (zs : List (Fo × Str)) (c d : Fo), bak zs (c.app d) = bak zs c ++ d.erow
  | [], c, d => erow_app c d
  | (l, n) :: zs, c, d => by simp only [bak, erow_app, List.append_assoc, List.cons_append]
theorem plc_none : ∀ (es : List (Option En)) (k : Nat) (seen st : List Str) (zs : List (Fo × Str)) (c : Fo), plc es k seen st = none → st = zs.reverse.map (·.2) → DpK zs c → pls (bak zs c) = seen → seen.Nodup → zs.length ≤ 100 →
    ∃ f : Fo, bak zs c ++ es.filterMap id = f.erow ∧ es = (es.filterMap id).map some ∧ f.nm.Nodup ∧ f.dp ≤ 100
  | [], k, seen, st, zs, c, h, hst, hd, hp, hn, hl => by
    have h1 : st = [] := by
      by_cases e : st = []
      · exact e
      · simp only [plc, if_neg e] at h; cases h
    have hz : zs = [] := by
      rw [h1] at hst
      have := congrArg List.length hst
      simp at this; exact List.eq_nil_of_length_eq_zero this.symm
    subst hz
    refine ⟨c, by simp [bak], rfl, ?_, hd⟩
    rw [← pls_row]
    have : pls c.erow = seen := hp
    rw [this]; exact hn
  | none :: r, k, seen, st, zs, c, h, _, _, _, _, _ => by simp only [plc] at h; cases h
  | some (true, n) :: r, k, seen, st, zs, c, h, hst, hd, hp, hn, hl => by
    by_cases e : n ∈ seen ∨ st.length = 100
    · simp only [plc, if_pos e] at h; cases h
    · simp only [plc, if_neg e] at h
      have hsl : st.length = zs.length := by rw [hst]; simp
      have e1 : n ∉ seen := fun z => e (.inl z)
      have e2 : zs.length ≠ 100 := fun z => e (.inr (by omega))
      obtain ⟨f, h1, h2, h3, h4⟩ := plc_none r (k + 1) (seen ++ [n]) (st ++ [n]) ((c, n) :: zs) .nil h (by rw [hst]; simp) ⟨by simp only [Fo.dp]; omega, hd⟩ (by
        show pls (bak zs c ++ (true, n) :: Fo.nil.erow) = _
        rw [pls_app, hp]; rfl) (nodup_snoc hn e1) (by rw [List.length_cons]; omega)
      refine ⟨f, ?_, ?_, h3, h4⟩
      · rw [← h1]
        show bak zs c ++ (true, n) :: r.filterMap id = (bak zs c ++ (true, n) :: Fo.nil.erow) ++ r.filterMap id
        rw [List.append_assoc]; rfl
      · show some (true, n) :: r = some (true, n) :: (r.filterMap id).map some
        rw [← h2]
  | some (false, n) :: r, k, seen, st, zs, c, h, hst, hd, hp, hn, hl => by
    by_cases e : st.getLast? = some n
    · simp only [plc, if_pos e] at h
      cases zs with
      | nil => rw [hst] at e; simp at e
      | cons z zs =>
        obtain ⟨l, m⟩ := z
        have hm : m = n := by
          rw [hst] at e
          simpa using e
        subst hm
        have hdl := DpK.here hd.2
        obtain ⟨f, h1, h2, h3, h4⟩ := plc_none r (k + 1) seen st.dropLast zs (l.app (.cons m c .nil)) h (by rw [hst]; simp) (DpK.set hd.2 (by
          rw [dp_app]
          have := hd.1
          simp only [Fo.dp]; omega)) (by
          rw [bak_app, pls_app, ← hp]
          show _ = pls (bak zs l ++ (true, m) :: c.erow)
          rw [pls_app]
          have : pls (Fo.cons m c .nil).erow = pls ((true, m) :: c.erow) := by
            show pls ((true, m) :: (c.erow ++ (false, m) :: Fo.nil.erow)) = _
            have : (true, m) :: (c.erow ++ (false, m) :: Fo.nil.erow) = ((true, m) :: c.erow) ++ [(false, m)] := rfl
            rw [this, pls_app]
            show pls ((true, m) :: c.erow) ++ [] = _
            rw [List.append_nil]
          rw [this]) hn (by rw [List.length_cons] at hl; omega)
        refine ⟨f, ?_, ?_, h3, h4⟩
        · rw [← h1, bak_app]
          show (bak zs l ++ (true, m) :: c.erow) ++ (false, m) :: r.filterMap id = (bak zs l ++ (true, m) :: (c.erow ++ (false, m) :: [])) ++ r.filterMap id
          simp
        · show some (false, m) :: r = some (false, m) :: (r.filterMap id).map some
          rw [← h2]
    · simp only [plc, if_neg e] at h; cases h
/-- a row without a bad place -/
theorem row_of_plc {K : PySem.W.Frag} {H : Hp} {xs : List V} (hi : ∀ x ∈ xs, Itm K H x) (h : plc (xs.map endV) 0 [] [] = none) (hl : xs.length ≤ 2000) : ∃ f, xs = f.row.map V.str ∧ RowOk f := by
  obtain ⟨f, h1, h2, h3, h4⟩ := plc_none (xs.map endV) 0 [] [] [] .nil h rfl (by show (0 : Nat) ≤ 100; omega) rfl List.nodup_nil (Nat.zero_le _)
  have h1 : (xs.map endV).filterMap id = f.erow := h1
  rw [h1] at h2
  have hen : ∀ (xs : List V) (es : List En), xs.map endV = es.map some → xs = es.map (fun e => V.str (en e)) ∧ ∀ e ∈ es, IsName e.2 := by
    intro xs
    induction xs with
    | nil => intro es h; cases es with
      | nil => exact ⟨rfl, fun e h => by cases h⟩
      | cons e es => cases h
    | cons x xs ih =>
      intro es h
      cases es with
      | nil => cases h
      | cons e es =>
        obtain ⟨ha, hb⟩ := List.cons.inj h
        obtain ⟨i1, i2⟩ := ih es hb
        cases x with
        | str z =>
          obtain ⟨a, b, _⟩ := endV_str ha
          refine ⟨by rw [i1, a]; rfl, fun e' he => ?_⟩
          rcases List.mem_cons.mp he with he | he
          · rw [he]; exact b
          · exact i2 e' he
        | _ => cases ha
  obtain ⟨i1, i2⟩ := hen xs f.erow h2
  have hrow : xs = f.row.map V.str := by rw [i1, Fo.row_erow, List.map_map]; rfl
  refine ⟨f, hrow, h3, fun z hz => ?_, ?_, h4⟩
  · rw [← pls_row] at hz
    obtain ⟨e, he, rfl⟩ := List.mem_map.mp hz
    exact i2 e (List.mem_filter.mp he).1
  · have : xs.length = 2 * f.nm.length := by rw [hrow, List.length_map, row_len]
    omega
end Tw
set_option Elab.async false
set_option linter.all false
set_option maxRecDepth 100000
set_option maxHeartbeats 4000000
/-! Callees that may raise: the call is read in a context that says where what is raised goes. -/
namespace Tw
open PySem PySem.Spec PyProof.Rows L2
section
variable {X : Cx} {CX : CXT} {k : Nat} {ps : List Str} {sp : Sp} {E : L2.St → XK} {x : Str} {p pos : Pos} {e : Expr} {es : List Expr} {t : TA}
/-- a callee that may raise, in a body whose context takes what it raises -/
theorem pe_calS (c : Cal X.prog X.w X.K X.mg X.base CX x ps k sp) (hr : Room k X.A) (hg : Gl X x) (hx : ∀ σ, PassesAt CX X σ (E σ)) (ha : PA X (e :: es) t) (hdb : (x == ("__debug__" : Str)) = false := by decide)
    (he : starEach (e :: es) X.env = (false, eval e X.env) :: starEach es X.env := by rfl) (hpl : (backTo pos (starEach es X.env)).any (·.1) = false := by rfl) : PE X (.Call (.Name x p) (e :: es) [] pos) (tCallS sp E t) := by
  obtain ⟨f, fd, F, g, kp, b⟩ := c
  exact pe_callS F hr hg g kp b hx ha hdb he hpl
end
end Tw
set_option Elab.async false
set_option linter.all false
set_option maxRecDepth 100000
set_option maxHeartbeats 4000000
/-! errors of the text's own classes: made, raised, caught -/
namespace Tw
open PySem PySem.Spec PyProof.Rows L2
/-! ### what the written part says of a class with an __init__ over ValueError -/
def clsShape (K : PySem.W.Frag) (C : Addr) : Bool := match K.lookup C with
  | some ⟨.type "type", _, .cls cd, sl⟩ => (match cd.mro, sl.toList with
    | .ref C' :: bm, [_, _, _, _, some (.builtin n), _] => C' == C && n == "ValueError.__new__" && !cd.hasDel && cd.hasDict && PySem.HandSPX.refsVE bm
    | _, _ => false)
  | _ => false
theorem clsShape_ok {K : PySem.W.Frag} {C : Addr} (q : clsShape K C = true) : ∃ nm q N bs bm sn sub ab col dd k0 k1 k2 k3 k5, K.lookup C = some (excClassObj nm q C N bs bm true sn sub ab col dd k0 k1 k2 k3 k5 "ValueError.__new__") ∧ PySem.HandSPX.refsVE bm = true := by
  unfold clsShape at q
  split at q
  · rename_i dd cd sl ho
    split at q
    · rename_i C' bm k0 k1 k2 k3 n k5 hm hs
      simp only [Bool.and_eq_true, beq_iff_eq, Bool.not_eq_true'] at q
      obtain ⟨⟨⟨⟨rfl, rfl⟩, hdel⟩, hd⟩, ht⟩ := q
      obtain ⟨nm, bs, mro, ns, qn, hdc, sn, sub, ab, col, del⟩ := cd
      dsimp only at hm hdel hd
      subst hm hdel hd
      have hsl : sl = #[k0, k1, k2, k3, some (.builtin "ValueError.__new__"), k5] := by
        obtain ⟨l⟩ := sl
        simp only at hs
        rw [hs]
      subst hsl
      exact ⟨nm, qn, ns, bs, bm, sn, sub, ab, col, dd, k0, k1, k2, k3, k5, ho, ht⟩
    · cases q
  · cases q
def oexB (K : PySem.W.Frag) (C : Addr) : Bool := clsShape K C && (decide (PySem.W.findIn K (.ref C) "__setattr__" = some (some (.builtin "object.__setattr__"))) && (decide (PySem.W.subIn K (.ref C) (.type "BaseException") = some true) && (decide (PySem.W.typeIn K (.ref C) = some (.type "type")) && PySem.W.keepIn K (.ref C))))
theorem oexB_ok {K : PySem.W.Frag} {C : Addr} (h : oexB K C = true) : OexC K C := by
  obtain ⟨h1, h⟩ := Bool.and_eq_true_iff.mp h
  obtain ⟨h2, h⟩ := Bool.and_eq_true_iff.mp h
  obtain ⟨h3, h⟩ := Bool.and_eq_true_iff.mp h
  obtain ⟨h4, h5⟩ := Bool.and_eq_true_iff.mp h
  exact ⟨clsShape_ok h1, of_decide_eq_true h2, of_decide_eq_true h3, of_decide_eq_true h4, h5⟩
/-- what isinstance asks of the class -/
def excB (K : PySem.W.Frag) (D : Addr) : Bool := xfB K D && (decide (PySem.W.findIn K (.ref D) "__class__" = some (some (.builtin "object.__class__"))) && (decide (PySem.W.specialIn K (.builtin "object.__class__") "__get__" = some (some (.builtin "getset_descriptor.__get__"))) &&
  (decide (PySem.W.takesIn K (.builtin "object.__class__") = some true) && decide (PySem.W.mroIn K D (.type "object") = some true))))
theorem excB_ok {K : PySem.W.Frag} {D : Addr} (h : excB K D = true) : ExcC K D := by
  obtain ⟨h1, h⟩ := Bool.and_eq_true_iff.mp h
  obtain ⟨h2, h⟩ := Bool.and_eq_true_iff.mp h
  obtain ⟨h3, h⟩ := Bool.and_eq_true_iff.mp h
  obtain ⟨h4, h5⟩ := Bool.and_eq_true_iff.mp h
  have x := xfB_ok h1
  exact ⟨x.ga, x.gg, x.exC, x.hdC, of_decide_eq_true h2, of_decide_eq_true h3, of_decide_eq_true h4, of_decide_eq_true h5⟩
/-! ### raise -/
/-- raise e, e makes t: what leaves the def is E's business -/
def tRaise (E : XK) (t : L2.St → Hp → XK → Prop) : TS := fun _ σ H => t σ H fun cls d H' => E cls d H'
/-- C(x), C's own __init__ storing x under f -/
def tMk1 (C : Addr) (f : Str) (te : TE) : L2.St → Hp → XK → Prop := fun σ H Q => te σ H fun v H1 => ∀ d, H1 d = none → Q (.ref C) (some d) (upd H1 d (.xd [(f, v)]))
/-- __init__(self, x): self.f = x -/
def sp_init1 (K : PySem.W.Frag) (C : Addr) (f : Str) : Sp := fun vs H Q _ => ∃ a v, vs = [.ref a, v] ∧ OexC K C ∧ PySem.W.findIn K (.ref C) f = some none ∧ H a = some (exo a C none) ∧ ∀ dx, H dx = none → dx ≠ a → Q .non (upd (upd H dx (exd dx [(f, v)])) a (exo a C (some dx)))
theorem len_init1 {K : PySem.W.Frag} {C : Addr} {f : Str} (vs : List V) (H : Hp) (Q : VK) (E : XK) (h : sp_init1 K C f vs H Q E) : vs.length = 2 := by
  obtain ⟨_, _, rfl, _⟩ := h; rfl
def t_init1 (K : PySem.W.Frag) (f : Str) : TS := tOst K f (tVar 0) (tVar 1)
theorem pure_init1 {K : PySem.W.Frag} {C : Addr} {f : Str} (vs : List V) (H : Hp) (Q : VK) (E : XK) (h : sp_init1 K C f vs H Q E) : t_init1 K f { nx := fun _ H' => Q .non H', rt := Q } (startN 2 vs) H := by
  obtain ⟨a, v, rfl, T, hf, ha, q⟩ := h
  show t_init1 K f _ [some (.ref a), some v] H
  exact ⟨v, rfl, .ref a, rfl, a, C, rfl, T, hf, .inl ⟨ha, q⟩⟩
theorem mk1_of {K : PySem.W.Frag} {C : Addr} {f : Str} (T : OexC K C) (hf : PySem.W.findIn K (.ref C) f = some none) {te : TE} {σ : L2.St} {H : Hp} {Q : XK} (h : tMk1 C f te σ H Q) (mono : ∀ (P R : VK), (∀ v H', P v H' → R v H') → te σ H P → te σ H R) :
    tMkO C (sp_init1 K C f) [] (tCons te tNil) σ H Q := by
  unfold tMkO
  show te σ H fun v H1 => _
  refine mono _ _ (fun v H1 q => ?_) h
  show 1 ≤ 1000 ∧ _
  refine ⟨by decide, fun a ha => ⟨a, v, rfl, T, hf, upd_same, fun dx hdx hne => ⟨rfl, dx, [(f, v)], upd_same, ?_, ?_, ?_⟩⟩⟩
  · rw [upd_ne hne, upd_same]
  · rw [upd_ne hne] at hdx; exact hdx
  · have hdx1 : H1 dx = none := by rw [upd_ne hne] at hdx; exact hdx
    have e : upd (del (upd (upd (upd H1 a (exo a C none)) dx (exd dx [(f, v)])) a (exo a C (some dx))) a) dx (.xd [(f, v)]) = upd H1 dx (.xd [(f, v)]) := by
      funext b
      by_cases hb : b = dx
      · rw [hb, upd_same, upd_same]
      · rw [upd_ne hb, upd_ne hb]
        by_cases hba : b = a
        · rw [hba, del_same, ha]
        · rw [del_ne hba, upd_ne hba, upd_ne hb, upd_ne hba]
    rw [e]
    exact q dx hdx1
/-- a reading that may be weakened -/
def Mono (te : TE) : Prop := ∀ σ H (P R : VK), (∀ v H', P v H' → R v H') → te σ H P → te σ H R
theorem mono_var {i : Nat} : Mono (tVar i) := fun σ H P R m ⟨v, h, q⟩ => ⟨v, h, m _ _ q⟩
theorem mono_c {v : V} : Mono (tC v) := fun σ H P R m q => m _ _ q
section
variable {X : Cx} {x : Str} {C fI : Addr} {k : Nat} {fd : FuncData} {f : Str} {e : Expr} {te : TE} {p pos : Pos}
/-- what is known of a class with an __init__ of one field -/
structure Cls1 (P : Program) (w : World) (K : PySem.W.Frag) (mg : Str → Option Value) (base : Heap) (x f : Str) (C : Addr) (k : Nat) : Prop where
  oex : OexC K C
  exc : ExcC K C
  xf : XfC K C
  no : PySem.W.findIn K (.ref C) f = some none
  glob : mg x = some (.ref C)
  init : ∃ (fI : Addr) (fd : FuncData) (ps : List Str), PySem.W.findIn K (.ref C) "__init__" = some (some (.ref fI)) ∧ PySem.W.typeIn K (.ref fI) = some (.type "function") ∧ FnOk P w K mg base CX0 k fI fd ps (sp_init1 K C f) ∧ Binds K fd ps []
/-- C(x) -/
theorem pmk1 (c : Cls1 X.prog X.w X.K X.mg X.base x f C k) (hr : Room (k + 1) X.A) (hg : Gl X x) (he : PE X e te) (hm : Mono te) (hdb : (x == ("__debug__" : Str)) = false := by decide)
    (hs : starEach [e] X.env = (false, eval e X.env) :: starEach [] X.env := by rfl) (hpl : (backTo pos (starEach [] X.env)).any (·.1) = false := by rfl) : PMk X (.Call (.Name x p) [e] [] pos) (tMk1 C f te) := by
  obtain ⟨fI, fd, ps, iC, tI, F1, b⟩ := c.init
  intro pins s σ H Q I h
  exact pmk_oex c.oex iC tI F1 hr b .nil pass0 hg c.glob (pa_cons he pa_nil hs) hdb hs hpl pins s σ H Q I (mk1_of c.oex c.no h fun P R m => hm σ H P R m)
/-- C(), C without an __init__ -/
theorem pmk_own0 {bmB : List Value} {B newId initId : String} (F : ExcBaseFacts B newId initId bmB) (q : PySem.W.excIn X.K C bmB newId = true) (gC : X.mg x = some (.ref C)) (kC : PySem.W.keepIn X.K (.ref C) = true) (r : Raises X (.ref C)) (hg : Gl X x)
    (hdb : (x == ("__debug__" : Str)) = false := by decide) : PMk X (.Call (.Name x p) [] [] pos) (fun _ H Q => Q (.ref C) none H) := by
  intro pins s σ H Q I h
  refine wpAny_Call_Name_kw (ld_glob I hg gC ?_ hdb)
  refine PySem.W.callWith_K0 I.kIn kC ?_
  obtain ⟨bm, N, nm, qn, bs, hdct, sn, sub, ab, col, dd, k0, k1, k2, k3, k5, mN, hC, hN, hni, T⟩ := exc_obj I.kIn q
  exact wpAny_call_exc_subT F T hC hN hni (fun h' e hm => mk_of I hm r h (I.hok.gone hm.new)) (Nat.zero_le _)
/-- raise -/
theorem ps_rz {E : XK} {t : L2.St → Hp → XK → Prop} (hc : X.calm = true) (tk : Takes X (fun cls d _ H => E cls d H)) (he : PMk X e t) : PS X (.Raise (some e) none pos) (tRaise E t) := ps_raise hc tk he
end
/-! ### in the suite of a clause -/
/-- isinstance(e, c), e the error at hand, with fields -/
def rIsD (K : PySem.W.Frag) (D : Addr) (cls : Value) (d : Option Addr) (a : Addr) : List V → Hp → VK → Prop := fun xs H Q => ∃ (c : V) (cv : Value) (b : Bool), xs = [.ref a, c] ∧ cls = .ref D ∧ (∃ (dd : Addr) (fs : List (Str × V)), d = some dd ∧ H dd = some (.xd fs)) ∧ (∀ u, RelV c u → u = cv) ∧ PySem.W.kitOne K (.ref D) cv = some b ∧ Q (.bl b) H
theorem call_isD {X : Cx} {a D : Addr} {cls : Value} {d : Option Addr} {oe : Obj} {pn : List (Addr × Obj)} (C : ExcC X.K D) (hz : Zc cls d oe) (hf : ∃ vs, oe.data = .fields vs) : CallR (X.suite a ((a, oe) :: pn)) (.builtin "isinstance") (rIsD X.K D cls d a) := by
  intro pins s σ H xs us Q I r h
  obtain ⟨c, cv, b, rfl, rfl, ⟨dd, fs, rfl, hd⟩, hcv, e, q⟩ := h
  cases r with
  | cons rx rr =>
    cases rr with
    | cons rt rr =>
      cases rr
      cases rx
      have ec := hcv _ rt
      subst ec
      obtain ⟨hget, _⟩ := I.pin (a, oe) (List.mem_append_left _ List.mem_cons_self)
      obtain ⟨vs, hv⟩ := hf
      have ok : ObjOk X.prog X.w H s.heap dd (.xd fs) := I.hok dd _ hd
      obtain ⟨mA, hns, _⟩ := ok
      obtain ⟨od, ho, _⟩ := lookIn_ns hns
      have J : PySem.W.InstAt s.heap a oe D (some od) := ⟨hget, hz.1, by unfold PySem.W.notCls; rw [hv] <;> rfl, by rw [hz.2]; exact ho⟩
      have hcl : (PySem.W.clsIn X.K D).isSome = true := by
        have := C.hd
        unfold PySem.W.hasDictIn at this
        cases h : PySem.W.clsIn X.K D with
        | none => rw [h] at this; cases this
        | some _ => rfl
      exact PySem.W.kia_one (PySem.W.kitx_exc hcl C.hg C.hk C.hs C.ha C.hn C.ht C.hm) I.kIn J e (fun z => nomatch z) fun tk => ⟨.bl b, H, I.kept (t' := tk) fun _ _ z => z, rfl, q⟩
/-- repr of None, of a number -/
def rReprN : List V → Hp → VK → Prop := fun xs H Q => (xs = [.non] ∧ Q (.str "None") H) ∨ ∃ i : Int, xs = [.int i] ∧ i.natAbs.log2 < 1920 ∧ Q (.str (toString i)) H
theorem call_reprN {X : Cx} : CallR X (.builtin "repr") rReprN := by
  intro pins s σ H xs us Q I r h
  rcases h with ⟨rfl, q⟩ | ⟨i, rfl, hz, q⟩
  · cases r with
    | cons rx rr =>
      cases rr
      cases rx
      exact PySem.P.repr_of_none ⟨.str "None", H, I.tok _, ⟨_, rfl⟩, q⟩
  · exact SkE.call_repr_int pins s σ H _ us Q I r ⟨i, rfl, hz, q⟩
/-! ### facts of classes, by their names -/
inductive Chk where
  | one (x f : Str)
  | kit (x y : Str) (b : Bool)
  | exm (x y : Str) (b : Bool)
  | keep (x : Str)
def Chk.ok (K : PySem.W.Frag) : Chk → Bool
  | .one x f => oexB K (He.ga K x) && (excB K (He.ga K x) && (decide (PySem.W.findIn K (.ref (He.ga K x)) f = some none) && (decide (PySem.W.findIn K (.ref (He.ga K x)) "__init__" = some (some (.ref (He.ma K (He.ga K x) "__init__")))) && decide (PySem.W.typeIn K (.ref (He.ma K (He.ga K x) "__init__")) = some (.type "function")))))
  | .kit x y b => decide (PySem.W.kitOne K (.ref (He.ga K x)) (.ref (He.ga K y)) = some b)
  | .exm x y b => decide (PySem.W.exmOne K (.ref (He.ga K x)) (.ref (He.ga K y)) = some b)
  | .keep x => PySem.W.keepIn K (.ref (He.ga K x))
def chkB (l : List Chk) (K : PySem.W.Frag) : Bool := l.all fun c => c.ok K
theorem chk_at {l : List Chk} {K : PySem.W.Frag} (h : chkB l K = true) (i : Nat) {c : Chk} (e : l[i]? = some c) : c.ok K = true := List.all_eq_true.mp h c (List.mem_of_getElem? e)
theorem cls1_of {P : Program} {w : World} {K : PySem.W.Frag} {mg : Str → Option Value} {base : Heap} {x f : Str} {k : Nat} {ps : List Str} {fd : FuncData} (h : (Chk.one x f).ok K = true) (g : mg x = some (.ref (He.ga K x)))
    (F : FnOk P w K mg base CX0 k (He.ma K (He.ga K x) "__init__") fd ps (sp_init1 K (He.ga K x) f)) (b : Binds K fd ps []) : Cls1 P w K mg base x f (He.ga K x) k := by
  obtain ⟨h1, h⟩ := Bool.and_eq_true_iff.mp h
  obtain ⟨h2, h⟩ := Bool.and_eq_true_iff.mp h
  obtain ⟨h3, h⟩ := Bool.and_eq_true_iff.mp h
  obtain ⟨h4, h5⟩ := Bool.and_eq_true_iff.mp h
  have e := excB_ok h2
  exact ⟨oexB_ok h1, e, ⟨e.hg, e.hk, e.hs, e.hd⟩, of_decide_eq_true h3, g, _, fd, ps, of_decide_eq_true h4, of_decide_eq_true h5, F, b⟩
end Tw
set_option Elab.async false
set_option linter.all false
set_option maxRecDepth 100000
set_option maxHeartbeats 4000000
/-! the program's bad place of any row; wood_of, which may raise -/
namespace Tw
open PySem PySem.Spec PyProof.Rows L2 TL
local macro_rules | `(tactic| walk_at "rd") => `(tactic| try simp only [o_op, o_un, o_var, o_c, o_cb, o_call, o_cons, o_nil, o_tup, o_lst, o_I0, o_I, o_int1, o_intb, o_abs, o_test, o_b, o_not, o_and, o_or, o_andV, o_orV, o_notV, o_ifE, o_isN, o_notN, o_eq, o_ne, o_seq, o_next, o_asg, o_name, o_sub, o_par, o_par3, o_drop, o_ret, o_retN, o_ifS, o_sl, o_noPart, o_part, o_bm, o_bm0, o_m0, o_m1, o_dget, o_dput, o_din, o_dnotin, o_listKeys, e_bl, e_int, e_str, e_some, e_two, e_three, o_for, o_lc, o_iList, o_iTup, o_iRng1, e_int1, e_ref, o_yes, o_wipe0, o_wipe1, o_disp, o_dnew, o_pairs0, o_pairs1, o_lock, o_keysM, o_gtup, o_gcons, o_gnil, o_rU, o_tru, o_revT, o_enumT, o_from, true_and, if_pos, List.getElem?_cons_zero, List.getElem?_cons_succ, List.set_cons_zero, List.set_cons_succ, List.append_nil])
def sp_u_bad_placeG (K : PySem.W.Frag) : Sp := fun vs H Q _ => ∃ a xs, vs = [.ref a] ∧ SqT K H a xs ∧ (∀ x ∈ xs, Itm K H x) ∧ xs.length ≤ 2000 ∧ ∀ H', Kp H H' → Q (oi (plc (xs.map endV) 0 [] [])) H'
/-- what wood_of does of a value: not a tuple; a tuple -/
def sp_wood_ofG (K : PySem.W.Frag) (C : Addr) : Sp := fun vs H Q E => ∃ v, vs = [v] ∧
  (((∃ z : Str, v = .str z) ∨ Oth K H v) ∧ (∀ d, H d = none → E (.ref C) (some d) (upd H d (.xd [("place", .non)]))) ∨
   ∃ a xs, v = .ref a ∧ SqT K H a xs ∧ (∀ x ∈ xs, Itm K H x) ∧ xs.length ≤ 2000 ∧
    match plc (xs.map endV) 0 [] [] with
    | some k => ∀ d H1, Kp H H1 → H1 d = none → E (.ref C) (some d) (upd H1 d (.xd [("place", .int (k : Int))]))
    | none => ∀ p f H', Kp H H' → xs = f.row.map V.str → RowOk f → WoodAt K H' p f → Q (.ref p) H')
def t_wood_ofG (K : PySem.W.Frag) (C : Addr) (E : XK) : TS :=
  (tSeq (tIfS (tNot (tB (tIsi K "tuple" (tVar 0)))) (tRaise E (tMk1 C "place" (tC .non))) tNext)
  (tSeq (tAsg (tCall (sp_u_bad_placeG K) [] E0 (tCons (tVar 0) tNil)) (gName 1))
  (tSeq (tIfS (tB (tNotN (tVar 1))) (tRaise E (tMk1 C "place" (tVar 1))) tNext)
  (tRet (tCall (sp_unchecked_wood K) [] E0 (tCons (tVar 0) tNil))))))
section
variable {K : PySem.W.Frag}
theorem len_u_bad_placeG (vs : List V) (H : Hp) (Q : VK) (E : XK) (h : sp_u_bad_placeG K vs H Q E) : vs.length = 1 := by
  obtain ⟨_, _, rfl, _⟩ := h; rfl
theorem len_wood_ofG {C : Addr} (vs : List V) (H : Hp) (Q : VK) (E : XK) (h : sp_wood_ofG K C vs H Q E) : vs.length = 1 := by
  obtain ⟨_, rfl, _⟩ := h; rfl
theorem o_raise {E : XK} {t : L2.St → Hp → XK → Prop} {D : Ends} {σ : L2.St} {H : Hp} : tRaise E t D σ H = t σ H fun cls d H' => E cls d H' := rfl
theorem o_mk1 {C : Addr} {f : Str} {te : TE} {σ : L2.St} {H : Hp} {Q : XK} : tMk1 C f te σ H Q = te σ H fun v H1 => ∀ d, H1 d = none → Q (.ref C) (some d) (upd H1 d (.xd [(f, v)])) := rfl
theorem pure_wood_ofG {C : Addr} (vs : List V) (H : Hp) (Q : VK) (E : XK) (h : sp_wood_ofG K C vs H Q E) : t_wood_ofG K C E { nx := fun _ H' => Q .non H', rt := Q } (startN 2 vs) H := by
  obtain ⟨v, rfl, h⟩ := h
  show t_wood_ofG K C E _ [some v, none] H
  unfold t_wood_ofG
  rcases h with ⟨hv, q⟩ | ⟨a, xs, rfl, ha, hi, hl, q⟩
  · walk_at "rd"
    rcases hv with ⟨z, rfl⟩ | hv
    · refine o_isiTS ?_
      walk_at "rd"
      simp only [Bool.not_false, if_true]
      exact q
    · refine o_isiTO hv ?_
      walk_at "rd"
      simp only [Bool.not_false, if_true]
      exact q
  · walk_at "rd"
    refine o_isiT ha ?_
    walk_at "rd"
    simp only [Bool.not_true, Bool.false_eq_true, if_false]
    refine ⟨a, xs, rfl, ha, hi, hl, fun H1 k1 => ?_⟩
    walk_at "rd"
    cases hp : plc (xs.map endV) 0 [] [] with
    | some k =>
      rw [hp] at q
      simp only [oi]
      rw [o_raise, o_mk1]
      walk_at "rd"
      simpa using fun d hd => q d H1 k1 hd
    | none =>
      rw [hp] at q
      simp only [oi]
      walk_at "rd"
      obtain ⟨f, hf, ok⟩ := row_of_plc hi hp hl
      have ha1 := Tk.kp k1 _ _ ha
      rw [hf] at ha1
      simp only [decide_true, Bool.not_true, Bool.false_eq_true, if_false]
      exact ⟨a, f, rfl, .inr ha1, ok.ok, fun p H2 k2 hw => q p f H2 (fun b o e => k2 _ _ (k1 _ _ e)) hf ok hw⟩
theorem strs_opn (st : List Str) (i : Option Int) : True := trivial
theorem cut_none {xs : List V} (h : xs = []) : cutV xs (some (-1)) none = [] := by subst h; rfl
/-- xs[-1:] against [n], xs names -/
theorem last_eq {st : List Str} {n : Str} : PyData.eqv (.list ((st.drop (st.length - 1)).map PyData.str)) (.list [.str n]) = decide (st.getLast? = some n) := by
  rcases List.eq_nil_or_concat st with h | ⟨l, m, h⟩
  · subst h; simp [PyData.eqv, PyData.eqvAll]
  · subst h
    by_cases e : m = n
    · subst e; simp [PyData.eqv, PyData.eqvAll]
    · simp [PyData.eqv, PyData.eqvAll, e]
theorem cut_lastS (st : List Str) : cutV (st.map V.str) (some (-1)) none = (st.drop (st.length - 1)).map V.str := by
  rcases List.eq_nil_or_concat st with h | ⟨l, m, h⟩
  · subst h; rfl
  · subst h
    rw [List.concat_eq_append, List.map_append]
    show cutV (l.map V.str ++ [V.str m]) _ _ = _
    rw [cut_last]; simp
theorem dpAll_strs {H : Hp} : ∀ (l : List Str), DpAll K H (l.map V.str) (l.map PyData.str)
  | [] => .nil
  | s :: l => .cons (.str s) (dpAll_strs l)
theorem canLay_strs : ∀ {l : List Str}, (∀ z ∈ l, IsName z) → PyData.canLayAll0 (l.map PyData.str) = true
  | [], _ => by simp [PyData.canLayAll0]
  | s :: l, h => by
    have h1 := strOk_of (h s (List.mem_cons_self ..))
    have h2 := canLay_strs (l := l) fun z hz => h z (List.mem_cons_of_mem _ hz)
    simp [PyData.canLayAll0, PyData.canLay0, h1, h2]
/-- st[-1:] != [n], two lists just laid -/
theorem o_neLast {H : Hp} {Q : VK} {p1 p2 : Addr} {st : List Str} {n : Str} (h1 : H p1 = some (.lst ((st.drop (st.length - 1)).map V.str))) (h2 : H p2 = some (.lst [.str n])) (hst : ∀ z ∈ st, IsName z) (hn : IsName n) (q : Q (.bl (!decide (st.getLast? = some n))) H) :
    rNeB K (.ref p1) (.ref p2) H Q := by
  have hdr : ∀ z ∈ st.drop (st.length - 1), IsName z := fun z hz => hst z (List.mem_of_mem_drop hz)
  have hso := strOk_of hn
  refine ⟨.list ((st.drop (st.length - 1)).map PyData.str), .list [.str n], .lst (SqL.of h1) (dpAll_strs _), .lst (SqL.of h2) (.cons (.str n) .nil), ?_, ?_, ?_, ?_⟩
  · have := canLay_strs hdr
    simp only [PyData.canLay0]
    exact this
  · simp [PyData.canLay0, PyData.canLayAll0, hso]
  · simp [PyData.depth, PyData.depthAll]
  · rw [last_eq]; exact q
theorem pure_u_bad_placeG (vs : List V) (H : Hp) (Q : VK) (E : XK) (h : sp_u_bad_placeG K vs H Q E) : t_u_bad_place K { nx := fun _ H' => Q .non H', rt := Q } (startN 6 vs) H := by
  obtain ⟨a, xs, rfl, ha, hit, hlen, q⟩ := h
  show t_u_bad_place K _ [some (.ref a), none, none, none, none, none] H
  unfold t_u_bad_place
  have hz := sizeLine_eq
  walk_at "rd"
  intro sn hsn
  generalize hG : upd H sn _ = H1
  obtain ⟨k1, e1⟩ := gen_new hsn hG
  clear hG
  refine ⟨Nat.zero_le _, fun ar har => ?_⟩
  generalize hG : upd H1 ar _ = H2
  obtain ⟨k2, e2⟩ := gen_new har hG
  clear hG
  have k02 : Kp H H2 := fun b o e => k2 _ _ (k1 _ _ e)
  have hsa : sn ≠ ar := ne_of_none e1 har
  have arH : H ar = none := Kp.free k1 har
  walk_at "rd"
  refine ⟨a, xs, rfl, Tk.kp k02 _ _ ha, ?_⟩
  refine fb_walk (walk_enumT (xs := xs)) (fun i σ H3 => ∃ (seen st : List Str) (x y z : Option V), Kp H H3 ∧ H3 sn = some (.dK (kvs seen fun _ => .bl true)) ∧ H3 ar = some (.lst (st.map V.str)) ∧ plc (xs.map endV) 0 [] [] = plc ((xs.map endV).drop i) i seen st ∧ (∀ z ∈ st, IsName z) ∧ seen.length ≤ i ∧ st.length ≤ i ∧
    σ = [some (.ref a), some (.ref sn), some (.ref ar), x, y, z]) ?_ ?_ ?_ ?_
  · exact ⟨[], [], _, _, _, k02, k2 _ _ e1, e2, rfl, (fun z h => by cases h), Nat.le_refl _, Nat.le_refl _, rfl⟩
  · rintro i σ H3 _ ⟨seen, st, x, y, z, k3, _⟩
    exact Tk.kp k3 _ _ ha
  · rintro i v σ H3 H4 hi ⟨seen, st, x, y, z, k3, hs3, ha3, hp, hnm, hsl, hstl, rfl⟩ ⟨T, x', y', rfl, hT, eH, ex, ey⟩
    obtain rfl := Option.some.inj ex
    replace ey : xs[i]? = some y' := ey
    obtain ⟨k4, e4⟩ := gen_new hT eH.symm
    have hdr : (xs.map endV).drop i = endV y' :: (xs.map endV).drop (i + 1) := by
      have : (xs.map endV)[i]? = some (endV y') := by rw [List.getElem?_map, ey]; rfl
      exact drop_at this
    rw [hdr] at hp
    have hity := (hit y' (List.mem_of_getElem? ey)).kp (fun b o e => k4 _ _ (k3 _ _ e))
    walk_at "rd"
    refine ⟨T, _, rfl, SqT.of e4, rfl, _, _, rfl, _, _, rfl, rfl, ?_⟩
    unfold t_u_bad_place_b1
    walk_at "rd"
    have early : endV y' = none → ∀ H5, Kp H4 H5 → Q (.int (i : Int)) H5 := fun h H5 k5 => by
      have := q H5 fun b o e => k5 _ _ (k4 _ _ (k3 _ _ e))
      rw [hp, h] at this
      exact this
    rcases hity with ⟨z, rfl, hzl⟩ | hnt
    · refine ⟨_, rfl, .inl ⟨z, rfl, by omega, fun H5 k5 => ?_⟩⟩
      walk_at "rd"
      cases hev : endV (.str z) with
      | none =>
        rw [endV_none hev]
        simp only [Bool.not_false, if_true]
        exact early hev H5 k5
      | some e =>
        obtain ⟨rfl, hie, hb⟩ := endV_str hev
        rw [hb]
        simp only [Bool.not_true, Bool.false_eq_true, if_false]
        rw [hev] at hp
        have h8 := hie.eight
        refine ⟨en e, rfl, by rw [en_len]; omega, ?_⟩
        rw [en_cut1]
        refine o_ixS (by rw [en_len]; omega) (en_at0 e) ⟨rfl, ?_⟩
        have k35 : Kp H3 H5 := fun b o e => k5 _ _ (k4 _ _ e)
        have k05 : Kp H H5 := fun b o e => k35 _ _ (k3 _ _ e)
        have hs5 := k35 _ _ hs3
        have ha5 := k35 _ _ ha3
        obtain ⟨b, n⟩ := e
        cases b with
        | true =>
          refine ite2 (fun _ => ?_) fun h => absurd (by simpa using p43) h
          walk_at "rd"
          have hg := DGet.k (k := (Sum.inr n : Key)) hs5
          rw [valV_kvs] at hg
          simp only [plc] at hp
          by_cases hm : n ∈ seen
          · rw [if_pos hm] at hg
            refine ⟨sn, _, rfl, hg, ?_⟩
            simp only [Option.isSome_some, if_true]
            walk_at "rd"
            rw [if_pos (.inl hm)] at hp
            have := q H5 k05
            rw [hp] at this; exact this
          · rw [if_neg hm] at hg
            refine ⟨sn, none, rfl, hg, ?_⟩
            simp only [Option.isSome_none, Bool.false_eq_true, if_false]
            walk_at "rd"
            refine ⟨ar, _, rfl, .inl (SqL.of ha5), rfl, ?_⟩
            rw [List.length_map]
            by_cases h100 : st.length = 100
            · have : decide (V.int (st.length : Int) = V.int 100) = true := by rw [h100]; rfl
              rw [this]
              simp only [if_true]
              rw [if_pos (.inr h100)] at hp
              have := q H5 k05
              rw [hp] at this; exact this
            · have : decide (V.int (st.length : Int) = V.int 100) = false := by
                rw [decide_eq_false_iff_not]; intro z; have := V.int.inj z; omega
              rw [this]
              simp only [Bool.false_eq_true, if_false]
              rw [if_neg (fun h => h.elim hm h100)] at hp
              refine ⟨sn, _, rfl, DPut.k (k := (Sum.inr n : Key)) hs5 (by rw [kvs_len]; omega), ?_⟩
              rw [put_new _ _ _ _ hm]
              generalize hG : upd H5 sn _ = H6
              obtain ⟨k6, e6⟩ := gen_chg hG
              clear hG
              have ha6 := k6 _ _ ha5 hsa.symm
              refine ⟨.inl ⟨rfl, _, SqL.of ha6⟩, ar, _, _, rfl, rfl, ha6, by rw [List.length_map]; omega, ?_⟩
              generalize hG : upd H6 ar _ = H7
              obtain ⟨k7, e7⟩ := gen_chg hG
              clear hG
              refine ⟨seen ++ [n], st ++ [n], _, _, _, fun b o e => k7 _ _ (k6 _ _ (k05 _ _ e) (ne_of_none e hsn)) (ne_of_none e arH), ?_, by rw [e7]; simp, hp, fun z hz => ?_, by rw [List.length_append, List.length_singleton]; omega, by rw [List.length_append, List.length_singleton]; omega, rfl⟩
              · rw [k7 _ _ e6 hsa]
                congr 3
                funext m; split <;> rfl
              · rcases List.mem_append.mp hz with hz | hz
                · exact hnm z hz
                · rw [List.mem_singleton.mp hz]; exact hie
        | false =>
          refine ite2 (fun h => absurd (by simpa using h) p45) fun _ => ?_
          walk_at "rd"
          simp only [plc] at hp
          refine ⟨ar, _, rfl, SqL.of ha5, fun p1 hp1 => ?_⟩
          rw [cut_lastS]
          generalize hG : upd H5 p1 _ = H6
          obtain ⟨k6, e6⟩ := gen_new hp1 hG
          clear hG
          refine ⟨by show 1 ≤ sizeLine; omega, fun p2 hp2 => ?_⟩
          generalize hG : upd H6 p2 _ = H7
          obtain ⟨k7, e7⟩ := gen_new hp2 hG
          clear hG
          have k57 : Kp H5 H7 := fun b o e => k7 _ _ (k6 _ _ e)
          refine o_neLast (k7 _ _ e6) e7 hnm hie ?_
          walk_at "rd"
          by_cases hl : st.getLast? = some n
          · rw [if_pos hl] at hp
            rw [decide_eq_true hl]
            simp only [Bool.not_true, Bool.false_eq_true, if_false]
            have ha7 := k57 _ _ ha5
            obtain ⟨l, rfl⟩ : ∃ l, st = l ++ [n] := List.getLast?_eq_some_iff.mp hl
            rw [List.map_append] at ha7
            refine ⟨.inl ⟨rfl, _, SqL.of ha7⟩, ar, _, .str n, rfl, rfl, ha7, by simp, ?_⟩
            rw [List.map_singleton, List.dropLast_concat]
            generalize hG : upd H7 ar _ = H8
            obtain ⟨k8, e8⟩ := gen_chg hG
            clear hG
            rw [List.dropLast_concat] at hp
            rw [List.length_append, List.length_singleton] at hstl
            exact ⟨seen, l, _, _, _, fun b o e => k8 _ _ (k57 _ _ (k05 _ _ e)) (ne_of_none e arH), k8 _ _ (k57 _ _ hs5) hsa, e8, hp, fun z hz => hnm z (List.mem_append_left _ hz), by omega, by omega, rfl⟩
          · rw [if_neg hl] at hp
            rw [decide_eq_false hl]
            simp only [Bool.not_false, if_true]
            have := q H7 fun b o e => k57 _ _ (k05 _ _ e)
            rw [hp] at this; exact this
    · have hev : endV y' = none := by
        cases hnt with
        | oth h => cases h <;> rfl
        | tup h => rfl
      refine ⟨_, rfl, .inr ⟨hnt.noStr, ?_⟩⟩
      walk_at "rd"
      simp only [Bool.not_false, if_true]
      exact early hev H4 Kp.rfl'
  · rintro σ H3 ⟨seen, st, x, y, z, k3, hs3, ha3, hp, hnm, hsl, hstl, rfl⟩
    have hd : (xs.map endV).drop xs.length = [] := by rw [List.drop_eq_nil_iff, List.length_map]; exact Nat.le_refl _
    rw [hd] at hp
    simp only [plc] at hp
    walk_at "rd"
    refine ⟨!(st.map V.str).isEmpty, .inl ⟨_, SqL.of ha3, rfl⟩, ?_⟩
    have q3 := q H3 k3
    rw [hp] at q3
    cases st with
    | nil =>
      simp only [List.map_nil, List.isEmpty_nil, Bool.not_true, Bool.false_eq_true, if_false]
      rw [if_pos rfl] at q3
      exact q3
    | cons s st =>
      simp only [List.map_cons, List.isEmpty_cons, Bool.not_false, if_true]
      rw [if_neg (by simp)] at q3
      walk_at "rd"
      exact ⟨a, xs, rfl, .inr (Tk.kp k3 _ _ ha), q3⟩
end
end Tw
set_option Elab.async false
set_option linter.all false
set_option maxRecDepth 100000
set_option maxHeartbeats 4000000
/-! the law k02: its own place, rows spoilt -/
namespace Tw
open PySem PySem.Spec PyProof.Rows L2 TL
local macro_rules | `(tactic| walk_at "rd") => `(tactic| try simp only [o_op, o_un, o_var, o_c, o_cb, o_call, o_cons, o_nil, o_tup, o_lst, o_I0, o_I, o_int1, o_intb, o_abs, o_test, o_b, o_not, o_and, o_or, o_andV, o_orV, o_notV, o_ifE, o_isN, o_notN, o_eq, o_ne, o_seq, o_next, o_asg, o_name, o_sub, o_par, o_par3, o_drop, o_ret, o_retN, o_ifS, o_sl, o_noPart, o_part, o_bm, o_bm0, o_m0, o_m1, o_dget, o_dput, o_din, o_dnotin, o_listKeys, e_bl, e_int, e_str, e_some, e_two, e_three, o_for, o_lc, o_iList, o_iTup, o_iRng1, e_int1, e_ref, o_yes, o_wipe0, o_wipe1, o_disp, o_dnew, o_pairs0, o_pairs1, o_lock, o_keysM, o_gtup, o_gcons, o_gnil, o_rU, o_tru, o_revT, o_enumT, o_from, true_and, if_pos, List.getElem?_cons_zero, List.getElem?_cons_succ, List.set_cons_zero, List.set_cons_succ, List.append_nil])
def sp_l_place (K : PySem.W.Frag) : Sp := fun vs H Q _ => ∃ a xs, vs = [.ref a] ∧ SqT K H a xs ∧ (∀ x ∈ xs, Itm K H x) ∧ xs.length ≤ 2000 ∧ ∀ H', Kp H H' → Q (oi (plc (xs.map endV) 0 [] [])) H'
def sp_l_bad_name (K : PySem.W.Frag) : Sp := fun vs H Q _ => ∃ a, vs = [.ref a] ∧ DeckAt H a ∧ ∀ (z : Str) H', Dk a H H' → z.length ≤ 100 → Q (.str z) H'
def sp_l_spoilt (K : PySem.W.Frag) : Sp := fun vs H Q _ => ∃ (a r l : Addr) (xs : List V) (zs : List Str), vs = [.ref a, .ref r, .ref l] ∧ DeckAt H a ∧ SqT K H r xs ∧ (∀ x ∈ xs, Itm K H x) ∧ xs.length ≤ 1000 ∧ H l = some (.lst (zs.map V.str)) ∧ l ≠ a ∧ zs.length ≤ 1000 ∧ (∀ z ∈ zs, z.length ≤ 100) ∧
  ∀ (p : Addr) (ys : List V) H', Dk a H H' → SqT K H' p ys → (∀ x ∈ ys, Itm K H' x) → ys.length ≤ xs.length + 2 → Q (.ref p) H'
def t_l_place_b1 (K : PySem.W.Frag) : TS :=
  (tSeq (tAsg (tOp (rIxT K) (tVar 0) (tVar 3)) (gName 4))
  (tSeq (tIfS (tOr (tNot (tB (tIsi K "str" (tVar 4)))) (tOr (tNot (tB (tCall (sp_l_is_name K) [] E0 (tCons (L2.tSl rSlS (tVar 4) (tPart (tC (.int 1))) tNoPart) tNil)))) (tTest (tOp rNotInSign (tOp rIxS (tVar 4) (tC (.int 0))) (tC (.str "+-")))))) (tRet (tVar 3)) tNext)
  (tIfS (tTest (tOp rEq (tOp rIxS (tVar 4) (tC (.int 0))) (tC (.str "+")))) (tSeq (tIfS (tOr (tTest (tOp (rIn K false) (tVar 4) (tVar 1))) (tTest (tOp rEq (tCB (rLenSeq K) (tCons (tVar 2) tNil)) (tC (.int 100))))) (tRet (tVar 3)) tNext)
  (tSeq (tDrop (tBM K "list" rAppend (tVar 1) (tCons (tVar 4) tNil)))
  (tDrop (tBM K "list" rAppend (tVar 2) (tCons (L2.tSl rSlS (tVar 4) (tPart (tC (.int 1))) tNoPart) tNil))))) (tSeq (tIfS (tTest (tOp (rNeB K) (L2.tSl (rSlL K) (tVar 2) (tPart (tUn (rU fun i => .int (-i)) (tC (.int 1)))) tNoPart) (tLst (tCons (L2.tSl rSlS (tVar 4) (tPart (tC (.int 1))) tNoPart) tNil)))) (tRet (tVar 3)) tNext)
  (tDrop (tBM0 K "list" rPop (tVar 2)))))))
def t_l_place (K : PySem.W.Frag) : TS :=
  (tSeq (tPar 1 2 (tCons (tLst tNil) (tCons (tLst tNil) tNil)))
  (tSeq (tFor (iRng1 (tCons (tCB (rLenSeq K) (tCons (tVar 0) tNil)) tNil)) (gName 3)
  (t_l_place_b1 K))
  (tRet (tIf (tTest (tOp (rEqE K false) (tVar 2) (tLst tNil))) (tC .non) (tCB (rLenSeq K) (tCons (tVar 0) tNil))))))
def t_l_bad_name (K : PySem.W.Frag) : TS :=
  (tRet (tCall (sp_l_pick K) [] E0 (tCons (tVar 0) (tCons (tLst (tCons (tC (.str "")) (tCons (tC (.str "A")) (tCons (tC (.str "a ")) (tCons (tC (.str "a1")) (tCons (tC (.str "aaaaaaaaa")) (tCons (tC (.str "+a")) (tCons (tC (.str "a{")) (tCons (tC (.str "aA")) (tCons (tC (.str "1")) (tCons (tC (.str " a")) (tCons (tC (.str "a-")) (tCons (tC (.str "abcdefghi")) tNil))))))))))))) tNil))))
def t_l_spoilt_r1 (K : PySem.W.Frag) : TS :=
  (tSeq (tIfS (tTest (tOp rEq (tVar 3) (tC (.int 4)))) (tSeq (tAsg (tCall (sp_l_bad_name K) [] E0 (tCons (tVar 0) tNil)) (gName 7))
  (tSeq (tAsg (tOp (rI0 fun i j => .int (i + j)) (tVar 4) (tCall sp_l_draw [] E0 (tCons (tVar 0) (tCons (tOp (rI0 fun i j => .int (i + j)) (tOp (rI0 fun i j => .int (i - j)) (tCB (rLenSeq K) (tCons (tVar 1) tNil)) (tVar 4)) (tC (.int 1))) tNil)))) (gName 8))
  (tRet (tOp (rCatA K) (tOp (rCatA K) (tOp (rCatA K) (tOp (rCatA K) (L2.tSl (rSlA K) (tVar 1) tNoPart (tPart (tVar 4))) (tTup (tCons (tOp rAddStr (tC (.str "+")) (tVar 7)) tNil))) (L2.tSl (rSlA K) (tVar 1) (tPart (tVar 4)) (tPart (tVar 8)))) (tTup (tCons (tOp rAddStr (tC (.str "-")) (tVar 7)) tNil))) (L2.tSl (rSlA K) (tVar 1) (tPart (tVar 8)) tNoPart))))) tNext)
  (tSeq (tIfS (tTest (tOp rEq (tVar 3) (tC (.int 0)))) (tRet (tOp (rCatA K) (tOp (rCatA K) (L2.tSl (rSlA K) (tVar 1) tNoPart (tPart (tVar 4))) (tTup (tCons (tVar 6) tNil))) (L2.tSl (rSlA K) (tVar 1) (tPart (tVar 4)) tNoPart))) tNext)
  (tSeq (tIfS (tTest (tOp rEq (tVar 3) (tC (.int 1)))) (tRet (tOp (rCatA K) (tOp (rCatA K) (L2.tSl (rSlA K) (tVar 1) tNoPart (tPart (tVar 4))) (tTup (tCons (tVar 6) tNil))) (L2.tSl (rSlA K) (tVar 1) (tPart (tOp (rI0 fun i j => .int (i + j)) (tVar 4) (tC (.int 1)))) tNoPart))) tNext)
  (tSeq (tIfS (tTest (tOp rEq (tVar 3) (tC (.int 2)))) (tRet (tOp (rCatA K) (L2.tSl (rSlA K) (tVar 1) tNoPart (tPart (tVar 4))) (L2.tSl (rSlA K) (tVar 1) (tPart (tOp (rI0 fun i j => .int (i + j)) (tVar 4) (tC (.int 1)))) tNoPart))) tNext)
  (tSeq (tAsg (tCall sp_l_draw [] E0 (tCons (tVar 0) (tCons (tOp (rI0 fun i j => .int (i + j)) (tCB (rLenSeq K) (tCons (tVar 1) tNil)) (tC (.int 1))) tNil))) (gName 8))
  (tSeq (tPar 9 8 (tCons (tCB rMin2 (tCons (tVar 4) (tCons (tVar 8) tNil))) (tCons (tCB rMax2 (tCons (tVar 4) (tCons (tVar 8) tNil))) tNil)))
  (tSeq (tPar 10 11 (tCons (L2.tSl (rSlA K) (tVar 1) (tPart (tVar 9)) (tPart (tOp (rI0 fun i j => .int (i + j)) (tVar 9) (tC (.int 1))))) (tCons (L2.tSl (rSlA K) (tVar 1) (tPart (tVar 8)) (tPart (tOp (rI0 fun i j => .int (i + j)) (tVar 8) (tC (.int 1))))) tNil)))
  (tSeq (tAsg (L2.tSl (rSlA K) (tVar 1) (tPart (tOp (rI0 fun i j => .int (i + j)) (tVar 9) (tC (.int 1)))) (tPart (tVar 8))) (gName 12))
  (tRet (tOp (rCatA K) (tOp (rCatA K) (tOp (rCatA K) (tOp (rCatA K) (L2.tSl (rSlA K) (tVar 1) tNoPart (tPart (tVar 9))) (tVar 11)) (tVar 12)) (tVar 10)) (L2.tSl (rSlA K) (tVar 1) (tPart (tOp (rI0 fun i j => .int (i + j)) (tVar 8) (tC (.int 1)))) tNoPart)))))))))))
def t_l_spoilt_r2 (K : PySem.W.Frag) : TS :=
  (C8.tCut (tIfS (tTest (tOp rEq (tVar 5) (tC (.int 3)))) (tAsg (tOp rAddStr (tCall (sp_l_pick K) [] E0 (tCons (tVar 0) (tCons (tLst (tCons (tC (.str "+")) (tCons (tC (.str "-")) tNil))) tNil))) (tCall (sp_l_bad_name K) [] E0 (tCons (tVar 0) tNil))) (gName 6)) tNext)
  (t_l_spoilt_r1 K))
def t_l_spoilt (K : PySem.W.Frag) : TS :=
  (tSeq (tPar3 3 4 5 (tCons (tCall sp_l_draw [] E0 (tCons (tVar 0) (tCons (tC (.int 5)) tNil))) (tCons (tCall sp_l_draw [] E0 (tCons (tVar 0) (tCons (tOp (rI0 fun i j => .int (i + j)) (tCB (rLenSeq K) (tCons (tVar 1) tNil)) (tC (.int 1))) tNil))) (tCons (tCall sp_l_draw [] E0 (tCons (tVar 0) (tCons (tC (.int 5)) tNil))) tNil))))
  (tSeq (tAsg (tOp rAddStr (tCall (sp_l_pick K) [] E0 (tCons (tVar 0) (tCons (tLst (tCons (tC (.str "+")) (tCons (tC (.str "-")) tNil))) tNil))) (tCall (sp_l_pick K) [] E0 (tCons (tVar 0) (tCons (tOp rCat (tVar 2) (tLst (tCons (tC (.str "q")) tNil))) tNil)))) (gName 6))
  (C8.tCut (tIfS (tTest (tOp rEq (tVar 5) (tC (.int 2)))) (tAsg (tCall (sp_l_odd K) [] E0 (tCons (tVar 0) tNil)) (gName 6)) tNext)
  (t_l_spoilt_r2 K))))
section
variable {K : PySem.W.Frag}
theorem len_l_place (vs : List V) (H : Hp) (Q : VK) (E : XK) (h : sp_l_place K vs H Q E) : vs.length = 1 := by
  obtain ⟨_, _, rfl, _⟩ := h; rfl
theorem len_l_bad_name (vs : List V) (H : Hp) (Q : VK) (E : XK) (h : sp_l_bad_name K vs H Q E) : vs.length = 1 := by
  obtain ⟨_, rfl, _⟩ := h; rfl
theorem len_l_spoilt (vs : List V) (H : Hp) (Q : VK) (E : XK) (h : sp_l_spoilt K vs H Q E) : vs.length = 3 := by
  obtain ⟨_, _, _, _, _, rfl, _⟩ := h; rfl
theorem en_inj {e e2 : En} (q : en e = en e2) : e = e2 := by
  have h1 := congrArg (fun s : Str => s.cps.toList) q
  simp only [en_codes] at h1
  obtain ⟨h2, h3⟩ := List.cons.inj h1
  obtain ⟨b1, n1⟩ := e
  obtain ⟨b2, n2⟩ := e2
  have hn : n1 = n2 := str_ext h3
  have hb : b1 = b2 := by
    cases b1 <;> cases b2 <;> first | rfl | (simp at h2)
  rw [hn, hb]
theorem signs : (("+-" : Str)).cps.toList = [43, 45] := by decide +kernel
theorem pure_l_place (vs : List V) (H : Hp) (Q : VK) (E : XK) (h : sp_l_place K vs H Q E) : t_l_place K { nx := fun _ H' => Q .non H', rt := Q } (startN 5 vs) H := by
  obtain ⟨a, xs, rfl, ha, hit, hlen, q⟩ := h
  show t_l_place K _ [some (.ref a), none, none, none, none] H
  unfold t_l_place
  have hz := sizeLine_eq
  walk_at "rd"
  refine ⟨Nat.zero_le _, fun sn hsn => ?_⟩
  generalize hG : upd H sn _ = H1
  obtain ⟨k1, e1⟩ := gen_new hsn hG
  clear hG
  refine ⟨Nat.zero_le _, fun ar har => ?_⟩
  generalize hG : upd H1 ar _ = H2
  obtain ⟨k2, e2⟩ := gen_new har hG
  clear hG
  have k02 : Kp H H2 := fun b o e => k2 _ _ (k1 _ _ e)
  have hsa : sn ≠ ar := ne_of_none e1 har
  have arH : H ar = none := Kp.free k1 har
  refine ⟨a, xs, rfl, .inr (Tk.kp k02 _ _ ha), ?_⟩
  walk_at "rd"
  refine ⟨by omega, by omega, fb_range (fun i σ H3 => ∃ (seen st : List Str) (y z : Option V), Kp H H3 ∧ H3 sn = some (.lst ((seen.map fun n => en (true, n)).map V.str)) ∧ H3 ar = some (.lst (st.map V.str)) ∧ plc (xs.map endV) 0 [] [] = plc ((xs.map endV).drop i) i seen st ∧ (∀ z ∈ st, IsName z) ∧ seen.length ≤ i ∧ st.length ≤ i ∧
    σ = [some (.ref a), some (.ref sn), some (.ref ar), y, z]) ?_ ?_ ?_⟩
  · exact ⟨[], [], _, _, k02, k2 _ _ e1, e2, rfl, (fun z h => by cases h), Nat.le_refl _, Nat.le_refl _, rfl⟩
  · rintro i σ H3 hi ⟨seen, st, y, z, k3, hs3, ha3, hp, hnm, hsl, hstl, rfl⟩
    have hi2 : i < xs.length := by simpa using hi
    obtain ⟨v, hv⟩ : ∃ v, xs[i]? = some v := ⟨_, List.getElem?_eq_getElem hi2⟩
    have hdr : (xs.map endV).drop i = endV v :: (xs.map endV).drop (i + 1) := by
      have : (xs.map endV)[i]? = some (endV v) := by rw [List.getElem?_map, hv]; rfl
      exact drop_at this
    rw [hdr] at hp
    have hitv := (hit v (List.mem_of_getElem? hv)).kp k3
    walk_at "rd"
    unfold t_l_place_b1
    walk_at "rd"
    rw [Int.zero_add]
    refine ⟨a, xs, _, v, rfl, rfl, Tk.kp k3 _ _ ha, atI_nat hv, ?_⟩
    have early : endV v = none → ∀ H5, Kp H3 H5 → Q (.int (i : Int)) H5 := fun h H5 k5 => by
      have := q H5 fun b o e => k5 _ _ (k3 _ _ e)
      rw [hp, h] at this
      exact this
    rcases hitv with ⟨z, rfl, hzl⟩ | hnt
    · refine o_isiS ?_
      walk_at "rd"
      simp only [Bool.not_true, Bool.false_eq_true, if_false]
      have hcl : (cutS z (some 1) none).length ≤ 1000 := by
        rw [len_tl, cut1, List.length_drop, ← len_tl]; omega
      refine ⟨z, rfl, by omega, _, rfl, .inl ⟨_, rfl, hcl⟩, fun H5 k5 => ?_⟩
      have k05 : Kp H H5 := fun b o e => k5 _ _ (k3 _ _ e)
      walk_at "rd"
      show if (!nameB (cutS z (some 1) none)) = true then _ else _
      cases hev : endV (.str z) with
      | none =>
        have hB := endV_none hev
        cases hnb : nameB (cutS z (some 1) none) with
        | false =>
          simp only [Bool.not_false, if_true]
          exact early hev H5 k5
        | true =>
          simp only [Bool.not_true, Bool.false_eq_true, if_false]
          have hin := name_of_B hnb
          have h1 := hin.one
          rw [len_tl, cut1, List.length_drop] at h1
          cases hzc : z.cps.toList with
          | nil => rw [hzc] at h1; simp at h1
          | cons c r =>
            have hc : ¬ (c = 43 ∨ c = 45) := fun hc => by
              have : z = en (decide (c = 43), cutS z (some 1) none) := str_ext (by
                rw [en_codes, cut1, hzc]
                rcases hc with rfl | rfl <;> rfl)
              have h2 := en_end (e := (decide (c = 43), cutS z (some 1) none)) hin
              rw [← this, hB] at h2; cases h2
            refine o_ixS (by omega) (show atI z.cps.toList 0 = some c from by rw [hzc]; exact atI_nat (j := 0) rfl) ?_
            refine ⟨c, _, rfl, rfl, ?_⟩
            have : decide (c ∈ (("+-" : Str)).cps.toList) = false := by
              rw [decide_eq_false_iff_not, signs]; simpa using hc
            rw [this]
            refine ⟨_, rfl, ?_⟩
            simp only [Bool.not_false, if_true]
            exact early hev H5 k5
      | some e =>
        obtain ⟨rfl, hie, hb⟩ := endV_str hev
        rw [en_cut1, nameB_of hie]
        simp only [Bool.not_true, Bool.false_eq_true, if_false]
        rw [hev] at hp
        have h8 := hie.eight
        refine o_ixS (by rw [en_len]; omega) (en_at0 e) ?_
        refine ⟨_, _, rfl, rfl, ?_⟩
        have hsg : decide ((if e.1 then 43 else 45) ∈ (("+-" : Str)).cps.toList) = true := by
          rw [decide_eq_true_eq, signs]; cases e.1 <;> simp
        rw [hsg]
        refine ⟨_, rfl, ?_⟩
        simp only [Bool.not_true, Bool.false_eq_true, if_false]
        refine o_ixS (by rw [en_len]; omega) (en_at0 e) ⟨rfl, ?_⟩
        have hs5 := k5 _ _ hs3
        have ha5 := k5 _ _ ha3
        obtain ⟨b, n⟩ := e
        cases b with
        | true =>
          refine ite2 (fun _ => ?_) fun h => absurd (by simpa using p43) h
          walk_at "rd"
          simp only [plc] at hp
          refine o_isIn hs5 ?_
          have hmem : (en (true, n) ∈ seen.map fun n => en (true, n)) ↔ n ∈ seen := by
            constructor
            · intro h
              obtain ⟨m, hm, e⟩ := List.mem_map.mp h
              have := en_inj e
              cases this; exact hm
            · intro h; exact List.mem_map_of_mem (f := fun n => en (true, n)) h
          refine ⟨_, rfl, ?_⟩
          by_cases hm : n ∈ seen
          · rw [decide_eq_true (hmem.mpr hm)]
            simp only [if_true]
            rw [if_pos (.inl hm)] at hp
            have := q H5 k05
            rw [hp] at this; exact this
          · rw [decide_eq_false (fun h => hm (hmem.mp h))]
            simp only [Bool.false_eq_true, if_false]
            refine ⟨ar, _, rfl, .inl (SqL.of ha5), ?_⟩
            walk_at "rd"
            refine ⟨rfl, ?_⟩
            rw [List.length_map]
            by_cases h100 : st.length = 100
            · have : decide (V.int (st.length : Int) = V.int 100) = true := by rw [h100]; rfl
              rw [this]
              simp only [if_true]
              rw [if_pos (.inr h100)] at hp
              have := q H5 k05
              rw [hp] at this; exact this
            · have : decide (V.int (st.length : Int) = V.int 100) = false := by
                rw [decide_eq_false_iff_not]; intro z; have := V.int.inj z; omega
              rw [this]
              simp only [Bool.false_eq_true, if_false]
              rw [if_neg (fun h => h.elim hm h100)] at hp
              refine ⟨.inl ⟨rfl, _, SqL.of hs5⟩, sn, _, _, rfl, rfl, hs5, by rw [List.length_map, List.length_map]; omega, ?_⟩
              generalize hG : upd H5 sn _ = H6
              obtain ⟨k6, e6⟩ := gen_chg hG
              clear hG
              have ha6 := k6 _ _ ha5 hsa.symm
              refine ⟨.inl ⟨rfl, _, SqL.of ha6⟩, en (true, n), rfl, by rw [en_len]; omega, ?_⟩
              rw [en_cut1]
              refine ⟨ar, _, _, rfl, rfl, ha6, by rw [List.length_map]; omega, ?_⟩
              generalize hG : upd H6 ar _ = H7
              obtain ⟨k7, e7⟩ := gen_chg hG
              clear hG
              refine ⟨seen ++ [n], st ++ [n], _, _, fun b o e => k7 _ _ (k6 _ _ (k05 _ _ e) (ne_of_none e hsn)) (ne_of_none e arH), by rw [k7 _ _ e6 hsa]; simp, by rw [e7]; simp, hp, fun z hz => ?_, by rw [List.length_append, List.length_singleton]; omega, by rw [List.length_append, List.length_singleton]; omega, rfl⟩
              rcases List.mem_append.mp hz with hz | hz
              · exact hnm z hz
              · rw [List.mem_singleton.mp hz]; exact hie
        | false =>
          refine ite2 (fun h => absurd (by simpa using h) p45) fun _ => ?_
          walk_at "rd"
          simp only [plc] at hp
          refine ⟨ar, _, rfl, SqL.of ha5, fun p1 hp1 => ?_⟩
          rw [cut_lastS]
          generalize hG : upd H5 p1 _ = H6
          obtain ⟨k6, e6⟩ := gen_new hp1 hG
          clear hG
          refine ⟨en (false, n), rfl, by rw [en_len]; omega, ?_⟩
          rw [en_cut1]
          refine ⟨by show 1 ≤ sizeLine; omega, fun p2 hp2 => ?_⟩
          generalize hG : upd H6 p2 _ = H7
          obtain ⟨k7, e7⟩ := gen_new hp2 hG
          clear hG
          have k57 : Kp H5 H7 := fun b o e => k7 _ _ (k6 _ _ e)
          refine o_neLast (k7 _ _ e6) e7 hnm hie ?_
          walk_at "rd"
          by_cases hl : st.getLast? = some n
          · rw [if_pos hl] at hp
            rw [decide_eq_true hl]
            simp only [Bool.not_true, Bool.false_eq_true, if_false]
            have ha7 := k57 _ _ ha5
            obtain ⟨l, rfl⟩ : ∃ l, st = l ++ [n] := List.getLast?_eq_some_iff.mp hl
            rw [List.map_append] at ha7
            refine ⟨.inl ⟨rfl, _, SqL.of ha7⟩, ar, _, .str n, rfl, rfl, ha7, by simp, ?_⟩
            rw [List.map_singleton, List.dropLast_concat]
            generalize hG : upd H7 ar _ = H8
            obtain ⟨k8, e8⟩ := gen_chg hG
            clear hG
            rw [List.dropLast_concat] at hp
            rw [List.length_append, List.length_singleton] at hstl
            exact ⟨seen, l, _, _, fun b o e => k8 _ _ (k57 _ _ (k05 _ _ e)) (ne_of_none e arH), k8 _ _ (k57 _ _ hs5) hsa, e8, hp, fun z hz => hnm z (List.mem_append_left _ hz), by omega, by omega, rfl⟩
          · rw [if_neg hl] at hp
            rw [decide_eq_false hl]
            simp only [Bool.not_false, if_true]
            have := q H7 fun b o e => k57 _ _ (k05 _ _ e)
            rw [hp] at this; exact this
    · have hev : endV v = none := by
        cases hnt with
        | oth h => cases h <;> rfl
        | tup h => rfl
      refine o_isiN hnt.noStr ?_
      walk_at "rd"
      simp only [Bool.not_false, if_true]
      exact early hev H3 Kp.rfl'
  · rintro σ H3 ⟨seen, st, y, z, k3, hs3, ha3, hp, hnm, hsl, hstl, rfl⟩
    have hd : (xs.map endV).drop ((xs.length : Int)).toNat = [] := by rw [List.drop_eq_nil_iff, List.length_map]; omega
    rw [hd] at hp
    simp only [plc] at hp
    walk_at "rd"
    refine ⟨Nat.zero_le _, fun p hp4 => ?_⟩
    generalize hG : upd H3 p _ = H4
    obtain ⟨k4, e4⟩ := gen_new hp4 hG
    clear hG
    have q3 := q H4 fun b o e => k4 _ _ (k3 _ _ e)
    rw [hp] at q3
    refine ⟨ar, p, _, rfl, rfl, .inl ⟨SqL.of (k4 _ _ ha3), SqL.of e4⟩, ?_⟩
    refine ⟨_, rfl, ?_⟩
    cases st with
    | nil =>
      rw [if_pos rfl] at q3
      simpa [oi] using q3
    | cons s st =>
      rw [if_neg (by simp)] at q3
      simp only [List.map_cons, List.isEmpty_cons]
      walk_at "rd"
      simpa using ⟨a, xs, rfl, .inr (Tk.kp (fun b o e => k4 _ _ (k3 _ _ e)) _ _ ha), q3⟩
theorem pure_l_bad_name (vs : List V) (H : Hp) (Q : VK) (E : XK) (h : sp_l_bad_name K vs H Q E) : t_l_bad_name K { nx := fun _ H' => Q .non H', rt := Q } (startN 1 vs) H := by
  obtain ⟨a, rfl, hd, q⟩ := h
  show t_l_bad_name K _ [some (.ref a)] H
  unfold t_l_bad_name
  have hz := sizeLine_eq
  walk_at "rd"
  refine ⟨by show 12 ≤ sizeLine; omega, fun p hp => ?_⟩
  have hpa : p ≠ a := deck_ne hd hp
  generalize hG : upd H p _ = H1
  obtain ⟨k1, e1⟩ := gen_new hp hG
  clear hG
  have hd1 : DeckAt H1 a := by obtain ⟨x, y, z, e⟩ := hd; exact ⟨x, y, z, k1 _ _ e⟩
  refine o_pick (zs := ["", "A", "a ", "a1", "aaaaaaaaa", "+a", "a{", "aA", "1", " a", "a-", "abcdefghi"]) hd1 e1 hpa (by simp) (by simp) fun z H2 hzm k2 => ?_
  have hs : ∀ z ∈ (["", "A", "a ", "a1", "aaaaaaaaa", "+a", "a{", "aA", "1", " a", "a-", "abcdefghi"] : List Str), z.length ≤ 100 := by decide +kernel
  exact q z H2 ⟨fun b o e n => k2.keep _ _ (k1 _ _ e) n, k2.deck⟩ (hs z hzm)
/-- a tuple of items -/
def Gt (K : PySem.W.Frag) (H : Hp) (p : Addr) (n : Nat) : Prop := ∃ ys, SqT K H p ys ∧ (∀ x ∈ ys, Itm K H x) ∧ ys.length ≤ n
theorem Gt.kp {H H' : Hp} (k : Kp H H') {p : Addr} {n : Nat} (h : Gt K H p n) : Gt K H' p n := by
  obtain ⟨ys, h1, h2, h3⟩ := h
  exact ⟨ys, Tk.kp k _ _ h1, fun x hx => (h2 x hx).kp k, h3⟩
theorem Gt.dk {H H' : Hp} {d : Addr} (k : Dk d H H') (hd : DeckAt H d) {p : Addr} {n : Nat} (h : Gt K H p n) : Gt K H' p n := by
  obtain ⟨ys, h1, h2, h3⟩ := h
  exact ⟨ys, k.tk hd _ _ h1, fun x hx => (h2 x hx).dk k hd, h3⟩
theorem o_cat2 {H : Hp} {Q : VK} {a b : Addr} {m n : Nat} (ha : Gt K H a m) (hb : Gt K H b n) (hl : m + n ≤ 10000) (q : ∀ p H', Kp H H' → Gt K H' p (m + n) → Q (.ref p) H') : rCatA K (.ref a) (.ref b) H Q := by
  obtain ⟨xs, h1, h2, h3⟩ := ha
  obtain ⟨ys, h4, h5, h6⟩ := hb
  have hz := sizeLine_eq
  refine ⟨a, b, xs, ys, rfl, rfl, h1, h4, by omega, fun e => q b H Kp.rfl' ⟨ys, h4, h5, by omega⟩, fun _ e => q a H Kp.rfl' ⟨xs, h1, h2, by omega⟩, fun _ _ p hp => ?_⟩
  generalize hG : upd H p _ = H1
  obtain ⟨k1, e1⟩ := gen_new hp hG
  clear hG
  refine q p H1 k1 ⟨xs ++ ys, SqT.of e1, fun x hx => ?_, by rw [List.length_append]; omega⟩
  rcases List.mem_append.mp hx with hx | hx
  · exact (h2 x hx).kp k1
  · exact (h5 x hx).kp k1
theorem cut_mem {xs : List V} {lo hi : Option Int} {x : V} (h : x ∈ cutV xs lo hi) : x ∈ xs := by
  unfold cutV at h
  exact List.mem_of_mem_drop (List.mem_of_mem_take h)
theorem cuL_hi (xs : List V) (j : Nat) : (cutV xs none (some (j : Int))).length ≤ j := by
  unfold cutV
  rw [HT.sIx_none, HT.sIx_nat, List.length_take]; omega
theorem cuL_lo (xs : List V) (j : Nat) : (cutV xs (some (j : Int)) none).length ≤ xs.length - j := by
  unfold cutV
  rw [HT.sIx_none, HT.sIx_nat, List.length_take, List.length_drop]; omega
theorem cut_md (xs : List V) (i j : Nat) : (cutV xs (some (i : Int)) (some (j : Int))).length ≤ j - i := by
  unfold cutV
  rw [HT.sIx_nat, HT.sIx_nat, List.length_take, List.length_drop]; omega
theorem o_slG {H : Hp} {Q : VK} {a : Addr} {xs : List V} {lo hi : Option Int} {n : Nat} (h : SqT K H a xs) (hi2 : ∀ x ∈ xs, Itm K H x) (hl : (cutV xs lo hi).length ≤ n) (q : ∀ p H', Kp H H' → Gt K H' p n → Q (.ref p) H') : rSlA K (.ref a) lo hi H Q :=
  o_slA h fun p H' k h' => q p H' k ⟨_, h', fun x hx => (hi2 x (cut_mem hx)).kp k, hl⟩
/-- (v,) just laid -/
theorem gt_one {H : Hp} {p : Addr} {v : V} (h : H p = some (.tup [v])) (hv : Itm K H v) : Gt K H p 1 := ⟨[v], SqT.of h, fun x hx => by rw [List.mem_singleton.mp hx]; exact hv, Nat.le_refl _⟩
end
end Tw
set_option Elab.async false
set_option linter.all false
set_option maxRecDepth 100000
set_option maxHeartbeats 4000000
/-! the law k02: rows spoilt -/
namespace Tw
open PySem PySem.Spec PyProof.Rows L2 TL
local macro_rules | `(tactic| walk_at "rd") => `(tactic| try simp only [o_op, o_un, o_var, o_c, o_cb, o_call, o_cons, o_nil, o_tup, o_lst, o_I0, o_I, o_int1, o_intb, o_abs, o_test, o_b, o_not, o_and, o_or, o_andV, o_orV, o_notV, o_ifE, o_isN, o_notN, o_eq, o_ne, o_seq, o_next, o_asg, o_name, o_sub, o_par, o_par3, o_drop, o_ret, o_retN, o_ifS, o_sl, o_noPart, o_part, o_bm, o_bm0, o_m0, o_m1, o_dget, o_dput, o_din, o_dnotin, o_listKeys, e_bl, e_int, e_str, e_some, e_two, e_three, o_for, o_lc, o_iList, o_iTup, o_iRng1, e_int1, e_ref, o_yes, o_wipe0, o_wipe1, o_disp, o_dnew, o_pairs0, o_pairs1, o_lock, o_keysM, o_gtup, o_gcons, o_gnil, o_rU, o_tru, o_revT, o_enumT, o_from, true_and, if_pos, List.getElem?_cons_zero, List.getElem?_cons_succ, List.set_cons_zero, List.set_cons_succ, List.append_nil])
section
variable {K : PySem.W.Frag}
theorem kp_dk {a : Addr} {H H1 H2 : Hp} (k : Dk a H H1) (k2 : Kp H1 H2) : Dk a H H2 := ⟨fun b o e n => k2 _ _ (k.keep _ _ e n), by obtain ⟨x, y, z, h⟩ := k.deck; exact ⟨x, y, z, k2 _ _ h⟩⟩
theorem spoilt_r1 {H : Hp} {D : Ends} {a r : Addr} {xs : List V} {at_ : Nat} {way : Int} {v : V} {x2 x5 x7 x8 x9 x10 x11 x12 : Option V} (hd : DeckAt H a) (hr : SqT K H r xs) (hi : ∀ x ∈ xs, Itm K H x) (hlen : xs.length ≤ 1000) (hat : at_ ≤ xs.length) (hv : Itm K H v)
    (q : ∀ p H', Dk a H H' → Gt K H' p (xs.length + 2) → D.rt (.ref p) H') : t_l_spoilt_r1 K D [some (.ref a), some (.ref r), x2, some (.int way), some (.int (at_ : Int)), x5, some v, x7, x8, x9, x10, x11, x12] H := by
  unfold t_l_spoilt_r1
  have hz := sizeLine_eq
  have hq : ∀ {p : Addr} {H' : Hp} {n : Nat}, Dk a H H' → Gt K H' p n → n ≤ xs.length + 2 → D.rt (.ref p) H' := fun k g h => by
    obtain ⟨ys, h1, h2, h3⟩ := g
    exact q _ _ k ⟨ys, h1, h2, by omega⟩
  walk_at "rd"
  refine ⟨rfl, ite2 (fun _ => ?_) fun _ => ?_⟩
  · walk_at "rd"
    refine ⟨a, rfl, hd, fun z H1 k1 hzl => ?_⟩
    walk_at "rd"
    have hr1 := k1.tk hd _ _ hr
    have hi1 : ∀ x ∈ xs, Itm K H1 x := fun x hx => (hi x hx).dk k1 hd
    refine ⟨r, _, rfl, .inr hr1, ?_⟩
    walk_at "rd"
    refine o_draw k1.deck (by omega) (by omega) fun c H2 c0 c1 k2 => ?_
    obtain ⟨j, rfl⟩ : ∃ j : Nat, c = (j : Int) := ⟨c.toNat, by omega⟩
    have hr2 := k2.tk k1.deck _ _ hr1
    have hi2 : ∀ x ∈ xs, Itm K H2 x := fun x hx => (hi1 x hx).dk k2 k1.deck
    have k02 := k1.trans k2
    walk_at "rd"
    refine o_slG hr2 hi2 (cuL_hi xs at_) fun p3 H3 k3 g3 => ?_
    have l1 : (("+" : Str)).length = 1 := by decide +kernel
    have l2 : (("-" : Str)).length = 1 := by decide +kernel
    refine ⟨_, _, rfl, rfl, by omega, by show 1 ≤ sizeLine; omega, fun p4 hp4 => ?_⟩
    generalize hG : upd H3 p4 _ = H4
    obtain ⟨k4, e4⟩ := gen_new hp4 hG
    clear hG
    have hil : ∀ {s : Str}, s.length = 1 → (s ++ z).length ≤ 1000 := fun h => by rw [len_tl, tl_app, List.length_append, ← len_tl, ← len_tl]; omega
    refine o_cat2 (g3.kp k4) (gt_one e4 (.inl ⟨_, rfl, hil l1⟩)) (by omega) fun p5 H5 k5 g5 => ?_
    have e6 : ((at_ : Int) + (j : Int)) = ((at_ + j : Nat) : Int) := by omega
    rw [e6]
    have k25 : Kp H2 H5 := fun b o e => k5 _ _ (k4 _ _ (k3 _ _ e))
    refine o_slG (Tk.kp k25 _ _ hr2) (fun x hx => (hi2 x hx).kp k25) (cut_md xs at_ (at_ + j)) fun p6 H6 k6 g6 => ?_
    refine o_cat2 (g5.kp k6) g6 (by omega) fun p7 H7 k7 g7 => ?_
    refine ⟨_, _, rfl, rfl, by omega, by show 1 ≤ sizeLine; omega, fun p8 hp8 => ?_⟩
    generalize hG : upd H7 p8 _ = H8
    obtain ⟨k8, e8⟩ := gen_new hp8 hG
    clear hG
    refine o_cat2 (g7.kp k8) (gt_one e8 (.inl ⟨_, rfl, hil l2⟩)) (by omega) fun p9 H9 k9 g9 => ?_
    have k29 : Kp H2 H9 := fun b o e => k9 _ _ (k8 _ _ (k7 _ _ (k6 _ _ (k25 _ _ e))))
    refine o_slG (Tk.kp k29 _ _ hr2) (fun x hx => (hi2 x hx).kp k29) (cuL_lo xs (at_ + j)) fun p10 H10 k10 g10 => ?_
    refine o_cat2 (g9.kp k10) g10 (by omega) fun p11 H11 k11 g11 => ?_
    exact hq (kp_dk k02 fun b o e => k11 _ _ (k10 _ _ (k29 _ _ e))) g11 (by omega)
  walk_at "rd"
  refine ⟨rfl, ite2 (fun _ => ?_) fun _ => ?_⟩
  · walk_at "rd"
    refine o_slG hr hi (cuL_hi xs at_) fun p3 H3 k3 g3 => ?_
    refine ⟨by show 1 ≤ sizeLine; omega, fun p4 hp4 => ?_⟩
    generalize hG : upd H3 p4 _ = H4
    obtain ⟨k4, e4⟩ := gen_new hp4 hG
    clear hG
    refine o_cat2 (g3.kp k4) (gt_one e4 ((hv.kp k3).kp k4)) (by omega) fun p5 H5 k5 g5 => ?_
    have k05 : Kp H H5 := fun b o e => k5 _ _ (k4 _ _ (k3 _ _ e))
    refine o_slG (Tk.kp k05 _ _ hr) (fun x hx => (hi x hx).kp k05) (cuL_lo xs at_) fun p6 H6 k6 g6 => ?_
    refine o_cat2 (g5.kp k6) g6 (by omega) fun p7 H7 k7 g7 => ?_
    exact hq (kp_dk (Dk.refl hd) fun b o e => k7 _ _ (k6 _ _ (k05 _ _ e))) g7 (by omega)
  have e1 : ((at_ : Int) + 1) = ((at_ + 1 : Nat) : Int) := by omega
  walk_at "rd"
  refine ⟨rfl, ite2 (fun _ => ?_) fun _ => ?_⟩
  · walk_at "rd"
    refine o_slG hr hi (cuL_hi xs at_) fun p3 H3 k3 g3 => ?_
    refine ⟨by show 1 ≤ sizeLine; omega, fun p4 hp4 => ?_⟩
    generalize hG : upd H3 p4 _ = H4
    obtain ⟨k4, e4⟩ := gen_new hp4 hG
    clear hG
    refine o_cat2 (g3.kp k4) (gt_one e4 ((hv.kp k3).kp k4)) (by omega) fun p5 H5 k5 g5 => ?_
    have k05 : Kp H H5 := fun b o e => k5 _ _ (k4 _ _ (k3 _ _ e))
    rw [e1]
    refine o_slG (Tk.kp k05 _ _ hr) (fun x hx => (hi x hx).kp k05) (cuL_lo xs (at_ + 1)) fun p6 H6 k6 g6 => ?_
    refine o_cat2 (g5.kp k6) g6 (by omega) fun p7 H7 k7 g7 => ?_
    exact hq (kp_dk (Dk.refl hd) fun b o e => k7 _ _ (k6 _ _ (k05 _ _ e))) g7 (by omega)
  walk_at "rd"
  refine ⟨rfl, ite2 (fun _ => ?_) fun _ => ?_⟩
  · walk_at "rd"
    refine o_slG hr hi (cuL_hi xs at_) fun p3 H3 k3 g3 => ?_
    rw [e1]
    refine o_slG (Tk.kp k3 _ _ hr) (fun x hx => (hi x hx).kp k3) (cuL_lo xs (at_ + 1)) fun p6 H6 k6 g6 => ?_
    refine o_cat2 (g3.kp k6) g6 (by omega) fun p7 H7 k7 g7 => ?_
    exact hq (kp_dk (Dk.refl hd) fun b o e => k7 _ _ (k6 _ _ (k3 _ _ e))) g7 (by omega)
  walk_at "rd"
  refine ⟨r, _, rfl, .inr hr, ?_⟩
  walk_at "rd"
  refine o_draw hd (by omega) (by omega) fun c H1 c0 c1 k1 => ?_
  obtain ⟨j, rfl⟩ : ∃ j : Nat, c = (j : Int) := ⟨c.toNat, by omega⟩
  have hr1 := k1.tk hd _ _ hr
  have hi1 : ∀ x ∈ xs, Itm K H1 x := fun x hx => (hi x hx).dk k1 hd
  walk_at "rd"
  refine ⟨_, _, rfl, _, _, rfl, ?_⟩
  obtain ⟨lo, hlo⟩ : ∃ lo : Nat, (if (j : Int) < (at_ : Int) then (j : Int) else (at_ : Int)) = (lo : Int) ∧ lo ≤ at_ ∧ lo ≤ j := by
    by_cases h : (j : Int) < (at_ : Int)
    · rw [if_pos h]; exact ⟨j, rfl, by omega, by omega⟩
    · rw [if_neg h]; exact ⟨at_, rfl, by omega, by omega⟩
  obtain ⟨hi', hhi⟩ : ∃ hi : Nat, (if (j : Int) > (at_ : Int) then (j : Int) else (at_ : Int)) = (hi : Int) ∧ hi ≤ xs.length ∧ at_ ≤ hi := by
    by_cases h : (j : Int) > (at_ : Int)
    · rw [if_pos h]; exact ⟨j, rfl, by omega, by omega⟩
    · rw [if_neg h]; exact ⟨at_, rfl, by omega, by omega⟩
  rw [hlo.1, hhi.1]
  have el : ((lo : Int) + 1) = ((lo + 1 : Nat) : Int) := by omega
  have eh : ((hi' : Int) + 1) = ((hi' + 1 : Nat) : Int) := by omega
  walk_at "rd"
  rw [el, eh]
  refine o_slG hr1 hi1 (cut_md xs lo (lo + 1)) fun p2 H2 k2 g2 => ?_
  refine o_slG (Tk.kp k2 _ _ hr1) (fun x hx => (hi1 x hx).kp k2) (cut_md xs hi' (hi' + 1)) fun p3 H3 k3 g3 => ?_
  walk_at "rd"
  have k13 : Kp H1 H3 := fun b o e => k3 _ _ (k2 _ _ e)
  refine o_slG (Tk.kp k13 _ _ hr1) (fun x hx => (hi1 x hx).kp k13) (cut_md xs (lo + 1) hi') fun p4 H4 k4 g4 => ?_
  walk_at "rd"
  have k14 : Kp H1 H4 := fun b o e => k4 _ _ (k13 _ _ e)
  refine o_slG (Tk.kp k14 _ _ hr1) (fun x hx => (hi1 x hx).kp k14) (cuL_hi xs lo) fun p5 H5 k5 g5 => ?_
  refine o_cat2 g5 ((g3.kp k4).kp k5) (by omega) fun p6 H6 k6 g6 => ?_
  refine o_cat2 g6 ((g4.kp k5).kp k6) (by omega) fun p7 H7 k7 g7 => ?_
  refine o_cat2 g7 (((((g2.kp k3).kp k4).kp k5).kp k6).kp k7) (by omega) fun p8 H8 k8 g8 => ?_
  have k18 : Kp H1 H8 := fun b o e => k8 _ _ (k7 _ _ (k6 _ _ (k5 _ _ (k14 _ _ e))))
  refine o_slG (Tk.kp k18 _ _ hr1) (fun x hx => (hi1 x hx).kp k18) (cuL_lo xs (hi' + 1)) fun p9 H9 k9 g9 => ?_
  refine o_cat2 (g8.kp k9) g9 (by omega) fun p10 H10 k10 g10 => ?_
  exact hq (kp_dk k1 fun b o e => k10 _ _ (k9 _ _ (k18 _ _ e))) g10 (by omega)
theorem pure_l_spoilt (vs : List V) (H : Hp) (Q : VK) (E : XK) (h : sp_l_spoilt K vs H Q E) : t_l_spoilt K { nx := fun _ H' => Q .non H', rt := Q } (startN 13 vs) H := by
  obtain ⟨a, r, l, xs, zs, rfl, hd, hr, hi, hlen, hl, hla, hzl, hzs, q⟩ := h
  show t_l_spoilt K _ [some (.ref a), some (.ref r), some (.ref l), none, none, none, none, none, none, none, none, none, none] H
  unfold t_l_spoilt
  have hz := sizeLine_eq
  walk_at "rd"
  refine o_draw hd (by decide) (by decide) fun way H1 w0 w1 k1 => ?_
  refine ⟨r, _, rfl, .inr (k1.tk hd _ _ hr), ?_⟩
  walk_at "rd"
  refine o_draw k1.deck (by omega) (by omega) fun c H2 c0 c1 k2 => ?_
  obtain ⟨at_, rfl⟩ : ∃ j : Nat, c = (j : Int) := ⟨c.toNat, by omega⟩
  refine o_draw k2.deck (by decide) (by decide) fun kind H3 n0 n1 k3 => ?_
  have k03 := (k1.trans k2).trans k3
  have hd3 := k3.deck
  have l1 : ∀ z ∈ (["+", "-"] : List Str), z.length = 1 := by decide +kernel
  refine ⟨by show 2 ≤ sizeLine; omega, fun p4 hp4 => ?_⟩
  have hp4a : p4 ≠ a := deck_ne hd3 hp4
  generalize hG : upd H3 p4 _ = H4
  obtain ⟨k4, e4⟩ := gen_new hp4 hG
  clear hG
  have k04 := kp_dk k03 k4
  refine o_pick (zs := ["+", "-"]) k04.deck e4 hp4a (by simp) (by simp) fun s H5 hs k5 => ?_
  have k05 := k04.trans k5
  have hs1 := l1 s hs
  refine ⟨by show 1 ≤ sizeLine; omega, fun p6 hp6 => ?_⟩
  have hp6a : p6 ≠ a := deck_ne k05.deck hp6
  generalize hG : upd H5 p6 _ = H6
  obtain ⟨k6, e6⟩ := gen_new hp6 hG
  clear hG
  have k06 := kp_dk k05 k6
  refine ⟨l, p6, _, _, rfl, rfl, k06.keep _ _ hl hla, e6, by simp only [List.length_map, List.length_cons, List.length_nil]; omega, fun p7 hp7 => ?_⟩
  have hp7a : p7 ≠ a := deck_ne k06.deck hp7
  generalize hG : upd H6 p7 _ = H7
  obtain ⟨k7, e7⟩ := gen_new hp7 hG
  clear hG
  have k07 := kp_dk k06 k7
  refine o_pick (zs := zs ++ [("q" : Str)]) k07.deck (by rw [e7]; simp) hp7a (by simp) (by rw [List.length_append, List.length_singleton]; omega) fun z H8 hzm k8 => ?_
  have k08 := k07.trans k8
  have hzl2 : z.length ≤ 100 := by
    rcases List.mem_append.mp hzm with h | h
    · exact hzs z h
    · rw [List.mem_singleton.mp h]; decide +kernel
  refine ⟨_, _, rfl, rfl, by omega, ?_⟩
  have hlen2 : ∀ {s z : Str}, s.length = 1 → z.length ≤ 100 → (s ++ z).length ≤ 1000 := fun h h2 => by rw [len_tl, tl_app, List.length_append, ← len_tl, ← len_tl]; omega
  refine ⟨fun σ H9 => ∃ v, Dk a H H9 ∧ Itm K H9 v ∧ σ = [some (.ref a), some (.ref r), some (.ref l), some (.int way), some (.int (at_ : Int)), some (.int kind), some v, none, none, none, none, none, none], ?_, ?_⟩
  · walk_at "rd"
    refine ⟨rfl, ite2 (fun _ => ?_) fun _ => ?_⟩
    · walk_at "rd"
      refine ⟨a, rfl, k08.deck, fun v H9 k9 hv => ?_⟩
      walk_at "rd"
      exact ⟨v, k08.trans k9, hv.val.itm, rfl⟩
    · walk_at "rd"
      exact ⟨_, k08, .inl ⟨_, rfl, hlen2 hs1 hzl2⟩, rfl⟩
  · rintro σ H9 ⟨v, k09, hv, rfl⟩
    unfold t_l_spoilt_r2
    refine ⟨fun σ H10 => ∃ v, Dk a H H10 ∧ Itm K H10 v ∧ σ = [some (.ref a), some (.ref r), some (.ref l), some (.int way), some (.int (at_ : Int)), some (.int kind), some v, none, none, none, none, none, none], ?_, ?_⟩
    · walk_at "rd"
      refine ⟨rfl, ite2 (fun _ => ?_) fun _ => ?_⟩
      · walk_at "rd"
        refine ⟨by show 2 ≤ sizeLine; omega, fun p10 hp10 => ?_⟩
        have hp10a : p10 ≠ a := deck_ne k09.deck hp10
        generalize hG : upd H9 p10 _ = H10
        obtain ⟨k10, e10⟩ := gen_new hp10 hG
        clear hG
        have k010 := kp_dk k09 k10
        refine o_pick (zs := ["+", "-"]) k010.deck e10 hp10a (by simp) (by simp) fun s2 H11 hs2 k11 => ?_
        have k011 := k010.trans k11
        have hs3 := l1 s2 hs2
        refine ⟨a, rfl, k011.deck, fun z2 H12 k12 hz2 => ?_⟩
        refine ⟨_, _, rfl, rfl, by omega, ?_⟩
        exact ⟨_, k011.trans k12, .inl ⟨_, rfl, hlen2 hs3 hz2⟩, rfl⟩
      · walk_at "rd"
        exact ⟨v, k09, hv, rfl⟩
    · rintro σ H10 ⟨v, k010, hv, rfl⟩
      refine spoilt_r1 k010.deck (k010.tk hd _ _ hr) (fun x hx => (hi x hx).dk k010 hd) hlen (by omega) hv fun p H11 k11 g => ?_
      obtain ⟨ys, h1, h2, h3⟩ := g
      exact q p ys H11 (k010.trans k11) h1 h2 h3
end
end Tw
set_option Elab.async false
set_option linter.all false
set_option maxRecDepth 100000
set_option maxHeartbeats 4000000
/-! equal woods of a hundred levels -/
namespace Tw
open PySem PySem.Spec PyProof.Rows L2
section
variable {X : Cx} {k : Nat} {K : PySem.W.Frag} {H : Hp} {Q : VK}
abbrev rEqL (K : PySem.W.Frag) : R2 := fun x y H Q => ∃ d e, Dp K H x d ∧ Dp K H y e ∧ d.canLay0 = true ∧ e.canLay0 = true ∧ min d.depth e.depth ≤ 210 ∧ Q (.bl (PyData.eqv d e)) H
theorem op_eqL (hr : Room k X.A) (hk : 1 ≤ k) : OpR X (compareOp .Eq) (rEqL X.K) := by
  intro pins s σ H x y v u Q I rx ry h
  obtain ⟨d, e, hd, he, sd, se, m, q⟩ := h
  obtain ⟨as, r1⟩ := Dp.reads I d x v hd rx
  obtain ⟨bs, r2⟩ := Dp.reads I e y u he ry
  have hu := hr.un
  exact SeqAt.compareEq_reads r1 r2 sd se (by omega) ⟨.bl _, H, I, rfl, q⟩
theorem o_eqWoodL {a b : Addr} {f : Fo} (h1 : WoodAt K H a f) (h2 : WoodAt K H b f) (hn : ∀ z ∈ f.nm, IsName z) (hd : f.dp ≤ 100) (q : Q (.bl true) H) : rEqL K (.ref a) (.ref b) H Q := by
  have hl : PyData.canLay0 (.tuple f.data) = true := by rw [PyData.canLay0]; exact data_lay f hn
  have e := SeqAt.eqv_refl (.tuple f.data) hl
  have := data_depth f
  refine ⟨_, _, h1.dp, h2.dp, hl, hl, ?_, by rw [e]; exact q⟩
  simp only [PyData.depth]; omega
end
end Tw
set_option Elab.async false
set_option linter.all false
set_option maxRecDepth 100000
set_option maxHeartbeats 4000000
/-! the laws' own way to skeletons and gaps -/
namespace Tw
open PySem PySem.Spec PyProof.Rows L2 TL
local macro_rules | `(tactic| walk_at "rd") => `(tactic| try simp only [o_op, o_un, o_var, o_c, o_cb, o_call, o_cons, o_nil, o_tup, o_lst, o_I0, o_I, o_int1, o_intb, o_abs, o_test, o_b, o_not, o_and, o_or, o_andV, o_orV, o_notV, o_ifE, o_isN, o_notN, o_eq, o_ne, o_seq, o_next, o_asg, o_name, o_sub, o_par, o_par3, o_drop, o_ret, o_retN, o_ifS, o_sl, o_noPart, o_part, o_bm, o_bm0, o_m0, o_m1, o_dget, o_dput, o_din, o_dnotin, o_listKeys, e_bl, e_int, e_str, e_some, e_two, e_three, o_for, o_lc, o_iList, o_iTup, o_iRng1, e_int1, e_ref, o_yes, o_wipe0, o_wipe1, o_disp, o_dnew, o_pairs0, o_pairs1, o_lock, o_keysM, o_gtup, o_gcons, o_gnil, o_rU, o_tru, o_revT, o_enumT, o_from, true_and, if_pos, List.getElem?_cons_zero, List.getElem?_cons_succ, List.set_cons_zero, List.set_cons_succ, List.append_nil])
def sp_l_from_row (K : PySem.W.Frag) : Sp := fun vs H Q _ => ∃ (a : Addr) (f : Fo), vs = [.ref a] ∧ SqT K H a (f.row.map V.str) ∧ NameOk f ∧ ∀ p H', Kp H H' → WoodAt K H' p f → Q (.ref p) H'
def sp_l_skeleton (K : PySem.W.Frag) : Sp := fun vs H Q _ => ∃ (r t : Addr) (es : List En) (zs : List Str), vs = [.ref r, .ref t] ∧ SqT K H r (es.map (V.str ∘ en)) ∧ SqT K H t (zs.map V.str) ∧ es.length ≤ 2000 ∧ (∀ e ∈ es, IsName e.2) ∧ ∀ p H', Kp H H' → SqT K H' p ((es.filter fun e => decide (e.2 ∈ zs)).map (V.str ∘ en)) → Q (.ref p) H'
def sp_l_gaps (K : PySem.W.Frag) : Sp := fun vs H Q _ => ∃ (r t : Addr) (es : List En) (zs : List Str), vs = [.ref r, .ref t] ∧ SqT K H r (es.map (V.str ∘ en)) ∧ SqT K H t (zs.map V.str) ∧ es.length ≤ 2000 ∧ (∀ e ∈ es, IsName e.2) ∧ ∀ p H', Kp H H' → GapsAt K H' p (gapL zs es []) → Q (.ref p) H'
def sp_l_chosen (K : PySem.W.Frag) : Sp := fun vs H Q _ => ∃ (d l : Addr) (zs : List Str), vs = [.ref d, .ref l] ∧ DeckAt H d ∧ H l = some (.lst (zs.map V.str)) ∧ l ≠ d ∧ zs.Nodup ∧ zs.length ≤ 1000 ∧ ∀ (p : Addr) (cs : List Str) (H' : Hp), Dk d H H' → SqT K H' p (cs.map V.str) → cs.Nodup → (∀ z ∈ cs, z ∈ zs) → Q (.ref p) H'
def t_l_from_row_b1 (K : PySem.W.Frag) : TS :=
  (tIfS (tTest (tOp rEq (tOp rIxS (tVar 2) (tC (.int 0))) (tC (.str "+")))) (tDrop (tBM K "list" rAppend (tVar 1) (tCons (tTup (tCons (L2.tSl rSlS (tVar 2) (tPart (tC (.int 1))) tNoPart) (tCons (tTup tNil) tNil))) tNil))) (tSeq (tAsg (tBM0 K "list" rPop (tVar 1)) (gName 3))
  (tSeq (tAsg (tBM0 K "list" rPop (tVar 1)) (gTup K 2 (gCons (gName 4) (gCons (gName 5) gNil))))
  (tDrop (tBM K "list" rAppend (tVar 1) (tCons (tTup (tCons (tVar 4) (tCons (tOp (rCatA K) (tVar 5) (tTup (tCons (tVar 3) tNil))) tNil))) tNil))))))
def t_l_from_row (K : PySem.W.Frag) : TS :=
  (tSeq (tAsg (tLst (tCons (tTup (tCons (tC (.str "")) (tCons (tTup tNil) tNil))) tNil)) (gName 1))
  (tSeq (tFor (iTup K (tVar 0)) (gName 2)
  (t_l_from_row_b1 K))
  (tRet (tOp (rIxT K) (tOp (rIxL K) (tVar 1) (tC (.int 0))) (tC (.int 1))))))
def t_l_skeleton (K : PySem.W.Frag) : TS :=
  (tRet (tCB (rTupleOf K) (tCons (tLc (iTup K (tVar 0)) (gName 2) (tTest (tOp (rIn K false) (L2.tSl rSlS (tVar 2) (tPart (tC (.int 1))) tNoPart) (tVar 1))) (tVar 2) [2]) tNil)))
def t_l_gaps_b1 (K : PySem.W.Frag) : TS :=
  (tIfS (tTest (tOp (rIn K false) (L2.tSl rSlS (tVar 4) (tPart (tC (.int 1))) tNoPart) (tVar 1))) (tPar 2 3 (tCons (tOp (rCatA K) (tVar 2) (tTup (tCons (tVar 3) tNil))) (tCons (tTup tNil) tNil))) (tAsg (tOp (rCatA K) (tVar 3) (tTup (tCons (tVar 4) tNil))) (gName 3)))
def t_l_gaps (K : PySem.W.Frag) : TS :=
  (tSeq (tAsg (tTup (tCons (tTup tNil) (tCons (tTup tNil) tNil))) (gTup K 2 (gCons (gName 2) (gCons (gName 3) gNil))))
  (tSeq (tFor (iTup K (tVar 0)) (gName 4)
  (t_l_gaps_b1 K))
  (tRet (tOp (rCatA K) (tVar 2) (tTup (tCons (tVar 3) tNil))))))
def t_l_chosen_b1 (K : PySem.W.Frag) : TS :=
  (tIfS (tOr (tTest (tOp rEq (tVar 2) (tC (.int 4)))) (tAnd (tTest (tOp (rI0 fun i j => .bl (decide (i < j))) (tVar 2) (tC (.int 3)))) (tTest (tOp rEq (tCall sp_l_draw [] E0 (tCons (tVar 0) (tCons (tOp (rI0 fun i j => .int (i + j)) (tC (.int 2)) (tVar 2)) tNil))) (tC (.int 0)))))) (tDrop (tBM K "list" rInsert (tVar 3) (tCons (tCall sp_l_draw [] E0 (tCons (tVar 0) (tCons (tOp (rI0 fun i j => .int (i + j)) (tCB (rLenSeq K) (tCons (tVar 3) tNil)) (tC (.int 1))) tNil))) (tCons (tVar 4) tNil)))) tNext)
def t_l_chosen (K : PySem.W.Frag) : TS :=
  (tSeq (tPar 2 3 (tCons (tCall sp_l_draw [] E0 (tCons (tVar 0) (tCons (tC (.int 5)) tNil))) (tCons (tLst tNil) tNil)))
  (tSeq (tFor (iList K (tVar 1)) (gName 4)
  (t_l_chosen_b1 K))
  (tRet (tCB (rTupleOf K) (tCons (tVar 3) tNil)))))
/-- the entries that are open: "" with what is done at the top, each open node with what is done in it -/
def ent : List (Fo × Str) → Fo → Fo
  | [], c => .cons "" c .nil
  | z :: zs, c => (ent zs z.1).app (.cons z.2 c .nil)
theorem ent_last : ∀ zs : List (Fo × Str), ∃ (X : Fo) (m : Str), ∀ d, ent zs d = X.app (.cons m d .nil)
  | [] => ⟨.nil, "", fun _ => rfl⟩
  | z :: zs => ⟨ent zs z.1, z.2, fun _ => rfl⟩
theorem ent_len : ∀ (zs : List (Fo × Str)) (c : Fo), (ent zs c).tops.length = zs.length + 1
  | [], _ => rfl
  | z :: zs, c => by rw [ent, Fo.tops_app, List.length_append, ent_len zs]; rfl
section
variable {K : PySem.W.Frag}
theorem len_l_from_row (vs : List V) (H : Hp) (Q : VK) (E : XK) (h : sp_l_from_row K vs H Q E) : vs.length = 1 := by
  obtain ⟨_, _, rfl, _⟩ := h; rfl
theorem len_l_skeleton (vs : List V) (H : Hp) (Q : VK) (E : XK) (h : sp_l_skeleton K vs H Q E) : vs.length = 2 := by
  obtain ⟨_, _, _, _, rfl, _⟩ := h; rfl
theorem len_l_gaps (vs : List V) (H : Hp) (Q : VK) (E : XK) (h : sp_l_gaps K vs H Q E) : vs.length = 2 := by
  obtain ⟨_, _, _, _, rfl, _⟩ := h; rfl
theorem len_l_chosen (vs : List V) (H : Hp) (Q : VK) (E : XK) (h : sp_l_chosen K vs H Q E) : vs.length = 2 := by
  obtain ⟨_, _, _, rfl, _⟩ := h; rfl
/-- the last of trees -/
theorem Rp.last {H : Hp} {vs : List V} {X c : Fo} {n : Str} (h : Rp K H vs (X.app (.cons n c .nil))) : ∃ u t k kvs, vs = u ++ [.ref t] ∧ Rp K H u X ∧ SqT K H t [.str n, .ref k] ∧ SqT K H k kvs ∧ Rp K H kvs c := by
  obtain ⟨u, v2, rfl, r1, r2⟩ := h.split
  cases r2 with
  | @cons t k _ kvs _ _ _ a b cc d =>
    cases d
    exact ⟨u, t, k, kvs, rfl, r1, a, b, cc⟩
theorem pure_l_from_row (vs : List V) (H : Hp) (Q : VK) (E : XK) (h : sp_l_from_row K vs H Q E) : t_l_from_row K { nx := fun _ H' => Q .non H', rt := Q } (startN 6 vs) H := by
  obtain ⟨a, f, rfl, ha, hf, q⟩ := h
  show t_l_from_row K _ [some (.ref a), none, none, none, none, none] H
  unfold t_l_from_row
  have hz := sizeLine_eq
  have hsz := hf.sz
  walk_at "rd"
  refine ⟨Nat.zero_le _, fun e0 he0 => ?_⟩
  generalize hG : upd H e0 _ = H1
  obtain ⟨k1, e1⟩ := gen_new he0 hG
  clear hG
  refine ⟨by show 2 ≤ sizeLine; omega, fun t0 ht0 => ?_⟩
  generalize hG : upd H1 t0 _ = H2
  obtain ⟨k2, e2⟩ := gen_new ht0 hG
  clear hG
  refine ⟨by show 1 ≤ sizeLine; omega, fun sn hsn => ?_⟩
  generalize hG : upd H2 sn _ = H3
  obtain ⟨k3, e3⟩ := gen_new hsn hG
  clear hG
  have k03 : Kp H H3 := fun b o e => k3 _ _ (k2 _ _ (k1 _ _ e))
  have snH : H sn = none := Kp.free (fun b o e => k2 _ _ (k1 _ _ e)) hsn
  walk_at "rd"
  refine ⟨⟨_, Tk.kp k03 _ _ ha⟩, ?_⟩
  have hlen : f.erow.length = 2 * f.nm.length := by rw [← row_len f, Fo.row_erow, List.length_map]
  rw [Fo.row_erow, List.map_map] at ha
  refine fb_tup (xs := f.erow.map (V.str ∘ en)) (fun i σ H4 => ∃ zs c ws x y z u, Kp H H4 ∧ H4 sn = some (.lst ws) ∧ Rp K H4 ws (ent zs c) ∧ Runs 1000 (f.erow.drop i) zs c f ∧ zs.length ≤ i ∧ i ≤ f.erow.length ∧ (∀ z ∈ zs, z.1.tops.length ≤ i) ∧ c.tops.length ≤ i ∧ σ = [some (.ref a), some (.ref sn), x, y, z, u]) ?_ ?_ ?_ ?_
  · exact ⟨[], .nil, _, _, _, _, _, k03, e3, .cons (SqT.of (k3 _ _ e2)) (SqT.of (k3 _ _ (k2 _ _ e1))) .nil .nil, runs_all f (by have := Fo.dp_le f; omega), Nat.le_refl _, Nat.zero_le _, (fun z hz => by cases hz), Nat.le_refl _, rfl⟩
  · rintro i σ H4 _ ⟨zs, c, ws, x, y, z, u, k4, _⟩
    exact Tk.kp k4 _ _ ha
  · rintro i v σ H4 hx ⟨zs, c, ws, x, y, z, u, k4, hs4, rp, hr, hzl, hi, hzt, hct, rfl⟩
    rw [List.getElem?_map, Option.map_eq_some_iff] at hx
    obtain ⟨e, he, rfl⟩ := hx
    rw [drop_at he] at hr
    have hi2 := (List.getElem?_eq_some_iff.mp he).1
    have hie : IsName e.2 := hf.nms _ (erow_nm f e (List.mem_of_getElem? he))
    have h8 := hie.eight
    unfold t_l_from_row_b1
    walk_at "rd"
    refine o_ixS (by rw [en_len]; omega) (en_at0 e) ⟨rfl, ?_⟩
    obtain ⟨b, n⟩ := e
    cases b with
    | true =>
      obtain ⟨hlt, hr2⟩ := hr
      refine ite2 (fun _ => ?_) fun h => absurd (by simpa using p43) h
      refine ⟨.inl ⟨rfl, _, SqL.of hs4⟩, en (true, n), rfl, by rw [en_len]; omega, Nat.zero_le _, fun p1 hp1 => ?_⟩
      rw [en_cut1]
      generalize hG : upd H4 p1 _ = H5
      obtain ⟨k5, e5⟩ := gen_new hp1 hG
      clear hG
      refine ⟨by show 2 ≤ sizeLine; omega, fun p2 hp2 => ?_⟩
      generalize hG : upd H5 p2 _ = H6
      obtain ⟨k6, e6⟩ := gen_new hp2 hG
      clear hG
      have hs6 := k6 _ _ (k5 _ _ hs4)
      refine ⟨sn, _, _, rfl, rfl, hs6, by rw [rp.len, ent_len]; omega, ?_⟩
      generalize hG : upd H6 sn _ = H7
      obtain ⟨k7, e7⟩ := gen_chg hG
      clear hG
      have t67 : Tk K H6 H7 := Tk.but (.inl ⟨_, hs6⟩) k7
      have t57 : Tk K H5 H7 := (Tk.kp k6).trans t67
      have t47 : Tk K H4 H7 := (Tk.kp k5).trans t57
      exact ⟨(c, n) :: zs, .nil, _, _, _, _, _, fun b o e => k7 _ _ (k6 _ _ (k5 _ _ (k4 _ _ e))) (ne_of_none e snH), e7, Rp.app (rp.mono t47) (.cons (t67 _ _ (SqT.of e6)) (t57 _ _ (SqT.of e5)) .nil .nil), hr2, by rw [List.length_cons]; omega, by omega, (fun z hz => by
        rcases List.mem_cons.mp hz with e | hz
        · rw [e]; show c.tops.length ≤ i + 1; omega
        · have := hzt z hz; omega), Nat.zero_le _, rfl⟩
    | false =>
      obtain ⟨l, zs', rfl, hr2⟩ := hr
      refine ite2 (fun h => absurd (by simpa using h) p45) fun _ => ?_
      walk_at "rd"
      obtain ⟨u1, t, k, kvs, rfl, r1, at1, ak1, rk1⟩ := Rp.last rp
      refine ⟨.inl ⟨rfl, _, SqL.of hs4⟩, sn, _, .ref t, rfl, rfl, hs4, by simp, ?_⟩
      rw [List.dropLast_concat]
      generalize hG : upd H4 sn _ = H5
      obtain ⟨k5, e5⟩ := gen_chg hG
      clear hG
      have t45 : Tk K H4 H5 := Tk.but (.inl ⟨_, hs4⟩) k5
      obtain ⟨X, m, hX⟩ := ent_last zs'
      rw [hX] at r1
      obtain ⟨u2, t2, kk2, kvs2, rfl, r2, at2, ak2, rk2⟩ := Rp.last r1
      walk_at "rd"
      refine ⟨.inl ⟨rfl, _, SqL.of e5⟩, sn, _, .ref t2, rfl, rfl, e5, by simp, ?_⟩
      rw [List.dropLast_concat]
      generalize hG : upd H5 sn _ = H6
      obtain ⟨k6, e6⟩ := gen_chg hG
      clear hG
      have t56 : Tk K H5 H6 := Tk.but (.inl ⟨_, e5⟩) k6
      have t46 := t45.trans t56
      walk_at "rd"
      refine ⟨t2, _, rfl, t46 _ _ at2, rfl, _, _, rfl, _, _, rfl, rfl, ?_⟩
      refine ⟨.inl ⟨rfl, _, SqL.of e6⟩, by show 1 ≤ sizeLine; omega, fun p1 hp1 => ?_⟩
      generalize hG : upd H6 p1 _ = H7
      obtain ⟨k7, e7⟩ := gen_new hp1 hG
      clear hG
      have hl2 := ent_len ((l, n) :: zs') c
      have hlt := hzt (l, n) (List.mem_cons_self ..)
      have hkl : kvs2.length ≤ 5000 := by rw [rk2.len]; have : l.tops.length ≤ i := hlt; omega
      refine o_cat (Tk.kp k7 _ _ (t46 _ _ ak2)) (SqT.of e7) (by simp only [List.length_cons, List.length_nil]; omega) fun p2 H8 k8 h8 => ?_
      refine ⟨by show 2 ≤ sizeLine; omega, fun p3 hp3 => ?_⟩
      generalize hG : upd H8 p3 _ = H9
      obtain ⟨k9, e9⟩ := gen_new hp3 hG
      clear hG
      have hs9 := k9 _ _ (k8 _ _ (k7 _ _ e6))
      have hul : u2.length ≤ zs'.length := by
        have h1 := r2.len
        have h2 := ent_len zs' .nil
        rw [hX, Fo.tops_app, List.length_append] at h2
        simp only [Fo.tops, List.length_cons, List.length_nil] at h2
        omega
      refine ⟨sn, _, _, rfl, rfl, hs9, by simp only [List.length_cons] at hzl; omega, ?_⟩
      generalize hG : upd H9 sn _ = H10
      obtain ⟨k10, e10⟩ := gen_chg hG
      clear hG
      have t910 : Tk K H9 H10 := Tk.but (.inl ⟨_, hs9⟩) k10
      have t610 : Tk K H6 H10 := (Tk.kp fun b o e => k9 _ _ (k8 _ _ (k7 _ _ e))).trans t910
      have t410 := t46.trans t610
      refine ⟨zs', _, _, _, _, _, _, fun b o e => k10 _ _ (k9 _ _ (k8 _ _ (k7 _ _ (k6 _ _ (k5 _ _ (k4 _ _ e) (ne_of_none e snH)) (ne_of_none e snH))))) (ne_of_none e snH), e10, ?_, hr2, by simp only [List.length_cons] at hzl; omega, by omega, (fun z hz => by have := hzt z (List.mem_cons_of_mem _ hz); omega), (by rw [Fo.tops_app, List.length_append]; have : l.tops.length ≤ i := hlt; show _ + 1 ≤ _; omega), rfl⟩
      rw [hX]
      exact Rp.app (r2.mono t410) (.cons (t910 _ _ (SqT.of e9)) (t910 _ _ (Tk.kp k9 _ _ h8)) (Rp.app (rk2.mono t410) (.cons (t410 _ _ at1) (t410 _ _ ak1) (rk1.mono t410) .nil)) .nil)
  · rintro σ H4 ⟨zs, c, ws, x, y, z, u, k4, hs4, rp, hr, hzl, hi, hzt, hct, rfl⟩
    rw [List.length_map, List.drop_length] at hr
    obtain ⟨rfl, rfl⟩ := hr
    walk_at "rd"
    cases rp with
    | @cons t k _ kvs _ _ _ a1 a2 a3 a4 =>
      cases a4
      exact o_ixL hs4 (atI_nat (j := 0) rfl) ⟨t, _, 1, _, rfl, rfl, a1, atI_nat (j := 1) rfl, q k H4 k4 ⟨kvs, a2, a3⟩⟩
theorem pure_l_skeleton (vs : List V) (H : Hp) (Q : VK) (E : XK) (h : sp_l_skeleton K vs H Q E) : t_l_skeleton K { nx := fun _ H' => Q .non H', rt := Q } (startN 3 vs) H := by
  obtain ⟨r, t, es, zs, rfl, hr, ht, hl, hn, q⟩ := h
  show t_l_skeleton K _ [some (.ref r), some (.ref t), none] H
  unfold t_l_skeleton
  have hz := sizeLine_eq
  walk_at "rd"
  refine ⟨⟨_, hr⟩, ?_⟩
  refine lb_walk (n := (es.map (V.str ∘ en)).length) walk_tup (fun D i H3 => H D = none ∧ Kp H H3 ∧ H3 D = some (.lst (((es.take i).filter fun e => decide (e.2 ∈ zs)).map (V.str ∘ en)))) ?_ ?_ ?_ ?_
  · intro D hD
    exact ⟨hD, (show Kp H H from fun _ _ h => h).new hD, by rw [upd_same]; rfl⟩
  · rintro D i H3 hi ⟨hD, k3, _⟩
    exact Tk.kp k3 _ _ hr
  · rintro D i x H3 H4 hi ⟨hD, k3, h3⟩ ⟨rfl, hx⟩
    rw [List.getElem?_map, Option.map_eq_some_iff] at hx
    obtain ⟨e, he, rfl⟩ := hx
    have hie := hn e (List.mem_of_getElem? he)
    have h8 := hie.eight
    have hle : ((es.take i).filter fun e => decide (e.2 ∈ zs)).length ≤ 2000 := by
      have := List.length_filter_le (fun e : En => decide (e.2 ∈ zs)) (es.take i)
      rw [List.length_take] at this; omega
    show gName 2 (.str (en e)) _ _ _
    walk_at "rd"
    refine ⟨en e, rfl, by rw [en_len]; omega, ?_⟩
    rw [en_cut1]
    refine o_inT (Tk.kp k3 _ _ ht) ?_
    walk_at "rd"
    rw [List.take_add_one, he, List.filter_append]
    refine ite2 (fun hc => ?_) fun hc => ?_
    · refine ⟨_, h3, by rw [List.length_map]; omega, hD, fun b o e => ?_, ?_⟩
      · rw [upd_ne (ne_of_none e hD)]; exact k3 _ _ e
      · have hc2 : e.2 ∈ zs := of_decide_eq_true hc
        rw [upd_same]; simp [hc2]
    · refine ⟨hD, k3, ?_⟩
      have hc2 : e.2 ∉ zs := fun h => hc (decide_eq_true h)
      rw [h3]; simp [hc2]
  · rintro D H3 hD ⟨_, k3, h3⟩
    rw [List.length_map, List.take_length] at h3
    refine ⟨D, _, rfl, .inl ⟨SqL.of h3, fun p hp => ?_⟩⟩
    generalize hG : upd H3 p _ = H4
    obtain ⟨k4, e4⟩ := gen_new hp hG
    clear hG
    exact q p H4 (fun b o e => k4 _ _ (k3 _ _ e)) (SqT.of e4)
theorem pure_l_gaps (vs : List V) (H : Hp) (Q : VK) (E : XK) (h : sp_l_gaps K vs H Q E) : t_l_gaps K { nx := fun _ H' => Q .non H', rt := Q } (startN 5 vs) H := by
  obtain ⟨r, t, es, zs, rfl, hr, ht, hl, hn, q⟩ := h
  show t_l_gaps K _ [some (.ref r), some (.ref t), none, none, none] H
  unfold t_l_gaps
  have hz := sizeLine_eq
  walk_at "rd"
  refine ⟨Nat.zero_le _, fun g0 hg0 => ?_⟩
  generalize hG : upd H g0 _ = H1
  obtain ⟨k1, e1⟩ := gen_new hg0 hG
  clear hG
  refine ⟨Nat.zero_le _, fun c0 hc0 => ?_⟩
  generalize hG : upd H1 c0 _ = H1a
  obtain ⟨k1a, e1a⟩ := gen_new hc0 hG
  clear hG
  refine ⟨by show 2 ≤ sizeLine; omega, fun c1 hc1 => ?_⟩
  generalize hG : upd H1a c1 _ = H2
  obtain ⟨k2a, e2a⟩ := gen_new hc1 hG
  clear hG
  have k2 : Kp H1 H2 := fun b o e => k2a _ _ (k1a _ _ e)
  have e2 := k2a _ _ e1a
  walk_at "rd"
  refine ⟨c1, _, rfl, SqT.of e2a, rfl, _, _, rfl, _, _, rfl, rfl, ?_⟩
  have k02 : Kp H H2 := fun b o e => k2 _ _ (k1 _ _ e)
  refine ⟨⟨_, Tk.kp k02 _ _ hr⟩, ?_⟩
  refine fb_tup (xs := es.map (V.str ∘ en)) (fun i σ H3 => ∃ gn cn gs ws cur x, Kp H H3 ∧ SqT K H3 gn ws ∧ Gs K H3 ws gs ∧ SqT K H3 cn (cur.map V.str) ∧ gs ++ gapL zs (es.drop i) cur = gapL zs es [] ∧ gs.length ≤ i ∧ cur.length ≤ i ∧ i ≤ es.length ∧
    σ = [some (.ref r), some (.ref t), some (.ref gn), some (.ref cn), x]) ?_ ?_ ?_ ?_
  · exact ⟨g0, c0, [], [], [], _, k02, SqT.of (k2 _ _ e1), .nil, SqT.of e2, rfl, Nat.le_refl _, Nat.le_refl _, Nat.zero_le _, rfl⟩
  · rintro i σ H3 _ ⟨gn, cn, gs, ws, cur, x, k3, _⟩
    exact Tk.kp k3 _ _ hr
  · rintro i v σ H3 hx ⟨gn, cn, gs, ws, cur, x, k3, hg3, gs3, hc3, heq, hgl, hcl, hi, rfl⟩
    rw [List.getElem?_map, Option.map_eq_some_iff] at hx
    obtain ⟨e, he, rfl⟩ := hx
    rw [drop_at he] at heq
    have hi2 := (List.getElem?_eq_some_iff.mp he).1
    have hie := hn e (List.mem_of_getElem? he)
    have h8 := hie.eight
    unfold t_l_gaps_b1
    walk_at "rd"
    refine ⟨en e, rfl, by rw [en_len]; omega, ?_⟩
    rw [en_cut1]
    refine o_inT (Tk.kp k3 _ _ ht) ?_
    walk_at "rd"
    refine ite2 (fun hc => ?_) fun hc => ?_
    · have hc2 : e.2 ∈ zs := of_decide_eq_true hc
      rw [gapL_cons, if_pos hc2] at heq
      refine ⟨by show 1 ≤ sizeLine; omega, fun p1 hp1 => ?_⟩
      generalize hG : upd H3 p1 _ = H4
      obtain ⟨k4, e4⟩ := gen_new hp1 hG
      clear hG
      refine o_cat (Tk.kp k4 _ _ hg3) (SqT.of e4) (by rw [gs3.len]; simp only [List.length_cons, List.length_nil]; omega) fun p2 H5 k5 h5 => ?_
      refine ⟨Nat.zero_le _, fun p3 hp3 => ?_⟩
      generalize hG : upd H5 p3 _ = H6
      obtain ⟨k6, e6⟩ := gen_new hp3 hG
      clear hG
      walk_at "rd"
      have k36 : Kp H3 H6 := fun b o e => k6 _ _ (k5 _ _ (k4 _ _ e))
      refine ⟨p2, p3, gs ++ [cur], _, [], _, fun b o e => k36 _ _ (k3 _ _ e), Tk.kp k6 _ _ h5, (gs3.mono (Tk.kp k36)).snoc (Tk.kp k36 _ _ hc3), SqT.of e6, ?_, by rw [List.length_append, List.length_singleton]; omega, Nat.zero_le _, by omega, rfl⟩
      rw [List.append_assoc]; exact heq
    · have hc2 : e.2 ∉ zs := fun h => hc (decide_eq_true h)
      rw [gapL_cons, if_neg hc2] at heq
      refine ⟨by show 1 ≤ sizeLine; omega, fun p1 hp1 => ?_⟩
      generalize hG : upd H3 p1 _ = H4
      obtain ⟨k4, e4⟩ := gen_new hp1 hG
      clear hG
      refine o_cat (Tk.kp k4 _ _ hc3) (SqT.of e4) (by rw [List.length_map]; simp only [List.length_cons, List.length_nil]; omega) fun p2 H5 k5 h5 => ?_
      have k35 : Kp H3 H5 := fun b o e => k5 _ _ (k4 _ _ e)
      exact ⟨gn, p2, gs, ws, cur ++ [en e], _, fun b o e => k35 _ _ (k3 _ _ e), Tk.kp k35 _ _ hg3, gs3.mono (Tk.kp k35), by simpa using h5, heq, by omega, by rw [List.length_append, List.length_singleton]; omega, by omega, rfl⟩
  · rintro σ H3 ⟨gn, cn, gs, ws, cur, x, k3, hg3, gs3, hc3, heq, hgl, hcl, hi, rfl⟩
    rw [List.length_map] at heq hgl hcl
    rw [List.drop_length] at heq
    walk_at "rd"
    refine ⟨by show 1 ≤ sizeLine; omega, fun p1 hp1 => ?_⟩
    generalize hG : upd H3 p1 _ = H4
    obtain ⟨k4, e4⟩ := gen_new hp1 hG
    clear hG
    refine o_cat (Tk.kp k4 _ _ hg3) (SqT.of e4) (by rw [gs3.len]; simp only [List.length_cons, List.length_nil]; omega) fun p2 H5 k5 h5 => ?_
    have k35 : Kp H3 H5 := fun b o e => k5 _ _ (k4 _ _ e)
    refine q p2 H5 (fun b o e => k35 _ _ (k3 _ _ e)) ⟨_, h5, ?_⟩
    rw [← heq]
    exact (gs3.mono (Tk.kp k35)).snoc (Tk.kp k35 _ _ hc3)
theorem ins_go {H : Hp} {fl d : Addr} {cs : List Str} {z : Str} {P : Hp → Prop} (dk : DeckAt H d) (h : H fl = some (.lst (cs.map V.str))) (fld : fl ≠ d) (hl : cs.length ≤ 1000)
    (q : ∀ H5 (c : Int), Dk d H H5 → 0 ≤ c → c < (cs.length : Int) + 1 → P (upd H5 fl (.lst ((cs.map V.str).take c.toNat ++ [V.str z] ++ (cs.map V.str).drop c.toNat)))) :
    tyV K "list" (V.ref fl) H ∧ rLenSeq K [V.ref fl] H fun x H1 => rI0 (fun i j => V.int (i + j)) x (V.int 1) H1 fun x H1 => sp_l_draw [V.ref d, x] H1 (fun x H1 => rInsert (V.ref fl) [x, V.str z] H1 fun _ H1 => P H1) E0 := by
  have hz := sizeLine_eq
  refine ⟨.inl ⟨rfl, _, SqL.of h⟩, fl, _, rfl, .inl (SqL.of h), ?_⟩
  walk_at "rd"
  rw [List.length_map]
  refine o_draw dk (by omega) (by omega) fun c H5 c0 c1 k5 => ?_
  exact ⟨fl, _, c, _, rfl, rfl, k5.keep _ _ h fld, by rw [List.length_map]; omega, c0, by omega, q H5 c k5 c0 c1⟩
theorem pure_l_chosen (vs : List V) (H : Hp) (Q : VK) (E : XK) (h : sp_l_chosen K vs H Q E) : t_l_chosen K { nx := fun _ H' => Q .non H', rt := Q } (startN 5 vs) H := by
  obtain ⟨d, l, zs, rfl, hd, hl, hld, nd, hsz, q⟩ := h
  show t_l_chosen K _ [some (.ref d), some (.ref l), none, none, none] H
  unfold t_l_chosen
  have hz := sizeLine_eq
  walk_at "rd"
  refine o_draw hd (by decide) (by decide) fun way H1 w0 w1 k1 => ?_
  refine ⟨Nat.zero_le _, fun fl hfl => ?_⟩
  generalize hG : upd H1 fl _ = H2
  obtain ⟨k2, e2⟩ := gen_new hfl hG
  clear hG
  have fld : fl ≠ d := deck_ne k1.deck hfl
  obtain ⟨x0, y0, z0, hd1⟩ := k1.deck
  have k02 : Dk d H H2 := ⟨fun b o e nb => k2 _ _ (k1.keep _ _ e nb), x0, y0, z0, k2 _ _ hd1⟩
  walk_at "rd"
  have flH : H fl = none ∨ True := .inr trivial
  have fll : fl ≠ l := fun e => by rw [e, k1.keep _ _ hl hld] at hfl; cases hfl
  refine ⟨⟨_, SqL.of (k02.keep _ _ hl hld)⟩, ?_⟩
  refine fb_list (xs := zs.map V.str) (fun i σ H3 => ∃ (cs : List Str) (x : Option V), (∀ b o, H b = some o → b ≠ d → H3 b = some o) ∧ DeckAt H3 d ∧ H3 fl = some (.lst (cs.map V.str)) ∧ cs.Nodup ∧ (∀ c ∈ cs, c ∈ zs.take i) ∧ cs.length ≤ i ∧ σ = [some (.ref d), some (.ref l), some (.int way), some (.ref fl), x]) ?_ ?_ ?_ ?_
  · exact ⟨[], _, k02.keep, k02.deck, e2, List.nodup_nil, (fun c hc => by cases hc), Nat.le_refl _, rfl⟩
  · rintro i σ H3 _ ⟨cs, x, k3, _⟩
    exact SqL.of (k3 _ _ hl hld)
  · rintro i v σ H3 hx ⟨cs, x, k3, d3, h3, ndc, hin, hcl, rfl⟩
    rw [List.getElem?_map, Option.map_eq_some_iff] at hx
    obtain ⟨z, hzi, rfl⟩ := hx
    have hi2 := (List.getElem?_eq_some_iff.mp hzi).1
    have hzn : z ∉ cs := fun hm => by
      obtain ⟨j, hj, e⟩ := List.mem_take_iff_getElem.mp (hin z hm)
      obtain ⟨_, e2⟩ := List.getElem?_eq_some_iff.mp hzi
      have := (List.getElem_inj nd).mp (e.trans e2.symm)
      omega
    have sub : ∀ c ∈ cs, c ∈ zs.take (i + 1) := fun c hc => by
      rw [List.take_add_one]; exact List.mem_append_left _ (hin c hc)
    have fk : ∀ H4, Dk d H3 H4 → ∃ (cs : List Str) (x : Option V), (∀ b o, H b = some o → b ≠ d → H4 b = some o) ∧ DeckAt H4 d ∧ H4 fl = some (.lst (cs.map V.str)) ∧ cs.Nodup ∧ (∀ c ∈ cs, c ∈ zs.take (i + 1)) ∧ cs.length ≤ i + 1 ∧
        [some (V.ref d), some (V.ref l), some (V.int way), some (V.ref fl), some (V.str z)] = [some (.ref d), some (.ref l), some (.int way), some (.ref fl), x] := fun H4 k4 =>
      ⟨cs, _, fun b o e nb => k4.keep _ _ (k3 _ _ e nb) nb, k4.deck, k4.keep _ _ h3 fld, ndc, sub, by omega, rfl⟩
    have body : ∀ H4, Dk d H3 H4 → ∀ (c : Int), 0 ≤ c → c < (cs.length : Int) + 1 → ∃ (cs' : List Str) (x : Option V), (∀ b o, H b = some o → b ≠ d → (upd H4 fl (.lst ((cs.map V.str).take c.toNat ++ [V.str z] ++ (cs.map V.str).drop c.toNat))) b = some o) ∧ DeckAt (upd H4 fl (.lst ((cs.map V.str).take c.toNat ++ [V.str z] ++ (cs.map V.str).drop c.toNat))) d ∧
        (upd H4 fl (.lst ((cs.map V.str).take c.toNat ++ [V.str z] ++ (cs.map V.str).drop c.toNat))) fl = some (.lst (cs'.map V.str)) ∧ cs'.Nodup ∧ (∀ c ∈ cs', c ∈ zs.take (i + 1)) ∧ cs'.length ≤ i + 1 ∧
        [some (V.ref d), some (V.ref l), some (V.int way), some (V.ref fl), some (V.str z)] = [some (.ref d), some (.ref l), some (.int way), some (.ref fl), x] := fun H4 k4 c c0 c1 => by
      have hp : (cs.take c.toNat ++ [z] ++ cs.drop c.toNat).Perm (z :: cs) := by
        have e : cs.take c.toNat ++ [z] ++ cs.drop c.toNat = cs.take c.toNat ++ z :: cs.drop c.toNat := by simp
        rw [e]
        refine List.perm_middle.trans ?_
        rw [List.take_append_drop]
      obtain ⟨x, y, w, hd4⟩ := k4.deck
      have flH2 : ∀ b o, H b = some o → b ≠ d → b ≠ fl := fun b o e nb ef => by
        rw [ef] at e
        have := k1.keep _ _ e fld
        rw [this] at hfl; cases hfl
      refine ⟨cs.take c.toNat ++ [z] ++ cs.drop c.toNat, _, fun b o e nb => ?_, ⟨x, y, w, by rw [upd_ne fld.symm]; exact hd4⟩, by rw [upd_same]; simp [List.map_take, List.map_drop], hp.nodup_iff.mpr (List.nodup_cons.mpr ⟨hzn, ndc⟩), fun c hc => ?_, by rw [hp.length_eq, List.length_cons]; omega, rfl⟩
      · rw [upd_ne (flH2 b o e nb)]
        exact k4.keep _ _ (k3 _ _ e nb) nb
      · rcases List.mem_cons.mp (hp.mem_iff.mp hc) with e | h
        · rw [e, List.take_add_one, hzi]; exact List.mem_append_right _ (List.mem_singleton.mpr rfl)
        · exact sub c h
    unfold t_l_chosen_b1
    walk_at "rd"
    refine ⟨rfl, ite2 (fun _ => ?_) fun _ => ite2 (fun h3w => ?_) fun _ => ?_⟩
    · exact ins_go d3 h3 fld (by omega) fun H5 c k5 c0 c1 => body H5 k5 c c0 c1
    · have h3w : way < 3 := of_decide_eq_true h3w
      refine o_draw d3 (by omega) (by omega) fun c H5 c0 c1 k5 => ?_
      refine ⟨rfl, ite2 (fun _ => ?_) fun _ => fk H5 k5⟩
      exact ins_go k5.deck (k5.keep _ _ h3 fld) fld (by omega) fun H6 c k6 c0 c1 => body H6 (k5.trans k6) c c0 c1
    · rw [if_neg (by decide)]
      exact fk H3 (Dk.refl d3)
  · rintro σ H3 ⟨cs, x, k3, d3, h3, ndc, hin, hcl, rfl⟩
    rw [List.length_map, List.take_length] at hin
    walk_at "rd"
    refine ⟨fl, _, rfl, .inl ⟨SqL.of h3, fun p hp => ?_⟩⟩
    have hpd : p ≠ d := deck_ne d3 hp
    generalize hG : upd H3 p _ = H4
    obtain ⟨k4, e4⟩ := gen_new hp hG
    clear hG
    obtain ⟨x, y, w, hd3⟩ := d3
    exact q p cs H4 ⟨fun b o e nb => k4 _ _ (k3 _ _ e nb), x, y, w, k4 _ _ hd3⟩ (SqT.of e4) ndc hin
end
end Tw
set_option Elab.async false
set_option linter.all false
set_option maxRecDepth 100000
set_option maxHeartbeats 4000000
/-! defs of the text that are run while nothing is being shown: repr of lists, tuples, dicts -/
namespace Tw
open PySem PySem.Spec PyProof.Rows L2
section
variable {P : Program} {w : World} {K : PySem.W.Frag} {mg : Str → Option Value} {base : Heap}
/-- no repr is under way -/
abbrev Quiet (A : Around) : Prop := A.guards = some []
/-- the call of f keeps the promise, here -/
def RunsAt (P : Program) (w : World) (K : PySem.W.Frag) (mg : Str → Option Value) (base : Heap) (CX : CXT) (A : Around) (f : Addr) (fd : FuncData) (ps : List Str) (sp : Sp) : Prop :=
  ∀ (outer : List Env) (s : Shared) (H : Hp) (args : Args) (us : List Value) (vs : List V) (Q : VK) (E : XK), Env0 P w K mg base A outer s H → BindsTo s fd args (ps.zip us) → Vals vs us → sp vs H Q E → codeAny (model P w) A (.call (.ref f) args) (CR CX outer P w H s Q E) s
structure FnG (P : Program) (w : World) (K : PySem.W.Frag) (mg : Str → Option Value) (base : Heap) (CX : CXT) (k : Nat) (f : Addr) (fd : FuncData) (ps : List Str) (sp : Sp) : Prop where
  len : ∀ vs H Q E, sp vs H Q E → vs.length = ps.length
  run : ∀ A : Around, Room k A → Quiet A → RunsAt P w K mg base CX A f fd ps sp
/-- THE RULE for a def that may show -/
theorem fnG_of {CX : CXT} {x qual : Str} {params : Arguments} {body : List Stmt} {scope : Scope} {dvs : List V} {kws : List (Str × V)} {f : Addr} {fd : FuncData} {N ps : List Str} {k : Nat} {sp : Sp} (F : FunD K x qual params body scope dvs kws f fd) (S : FnScope N ps scope)
    (len : ∀ vs H Q E, sp vs H Q E → vs.length = ps.length)
    (hbody : ∀ (cdv : Value) (A : Around) (outer : List Env) (s : Shared) (H : Hp) (vs : List V) (Q : VK) (E : XK), Room k (A.deeper (envOfC qual scope s.heap.objs.size f cdv)) → Quiet (A.deeper (envOfC qual scope s.heap.objs.size f cdv)) → sp vs H Q E →
      ∃ t, PSs (cxOf CX P w K mg base N qual scope f cdv A outer s H E) body t ∧ t { nx := fun _ H' => Q .non H', rt := Q } (start N vs) H) : FnG P w K mg base CX (k + 1) f fd ps sp := by
  obtain ⟨oc, od, dV, kV, doc, pm, an, cdv, ct, osl, rfl, lk, hcd, _, _⟩ := F.ex
  refine ⟨len, fun A hr hq outer s H args us vs Q E e0 hb r hsp => ?_⟩
  have old : ∀ b o, base.get? b = some o → s.heap.get? b = some o := fun b o e => (e0.bs b o e).1
  have KX := e0.mod.kin.keeps old
  refine codeAny_call_function hr.depth (KX _ _ lk) rfl S.co S.gen rfl (PySem.W.codeRec_of KX hcd) (hb _ _ _ _ ?_)
  refine wpAny_newFunctionEnv_cells S.kind (fun ⟨n, v⟩ hy => ?_) fun env he s1 x1 => ?_
  · rcases S.par n (List.of_mem_zip hy).1 with q | q
    · exact .inl q
    · exact .inr ⟨q, PySem.W.cellsFrom_some _ _ _ (.inl q)⟩
  · subst he
    refine ⟨(e0.mod.nolimit.keeps old).keeps x1.toInCall.keep, codeAny_func ?_⟩
    obtain ⟨t, ht, hw⟩ := hbody cdv A outer s H vs Q E (hr.deeper _) (by show A.guards = some []; exact hq) hsp
    have I := inv_start (E := E) (CX := CX) (f := f) (cd := cdv) (qual := qual) S hr.hd e0 (len _ _ _ _ hsp) r x1
    refine wpAny_mono (ht.run [] s1 (start N vs) H _ I hw) (fun fl s' hs => ?_) fun e s' hs => hs
    rcases fl with _ | _ | _ | u
    · obtain ⟨σ', H', J, q⟩ := hs
      exact ⟨.non, H', J.os, J.bare, J.base, J.hok, rfl, q⟩
    · obtain ⟨_, _, _, q⟩ := hs
      exact False.elim q
    · obtain ⟨_, _, _, q⟩ := hs
      exact False.elim q
    · obtain ⟨v, σ', H', J, rv, q⟩ := hs
      exact ⟨v, H', J.os, J.bare, J.base, J.hok, rv, q⟩
/-- a def that may show, as a callee -/
def CalG (P : Program) (w : World) (K : PySem.W.Frag) (mg : Str → Option Value) (base : Heap) (CX : CXT) (x : Str) (ps : List Str) (k : Nat) (sp : Sp) : Prop :=
  ∃ (f : Addr) (fd : FuncData), FnG P w K mg base CX k f fd ps sp ∧ mg x = some (.ref f) ∧ PySem.W.keepIn K (.ref f) = true ∧ Binds K fd ps []
theorem CalG.of {CX : CXT} {x : Str} {ps : List Str} {k : Nat} {sp : Sp} (c : Cal P w K mg base CX x ps k sp) : CalG P w K mg base CX x ps k sp := by
  obtain ⟨f, fd, F, g, kp, b⟩ := c
  exact ⟨f, fd, ⟨F.len, fun A hr _ outer s H args us vs Q E e0 hb r h => F.run A outer s H args us vs Q E hr e0 hb r h⟩, g, kp, b⟩
theorem CalG.mono {CX : CXT} {x : Str} {ps : List Str} {j k : Nat} {sp : Sp} (c : CalG P w K mg base CX x ps j sp) (h : j ≤ k) : CalG P w K mg base CX x ps k sp := by
  obtain ⟨f, fd, F, g, kp, b⟩ := c
  exact ⟨f, fd, ⟨F.len, fun A hr => F.run A (hr.mono h)⟩, g, kp, b⟩
theorem Df.calG {CX : CXT} {x : Str} {st : Stmt} {N ps : List Str} {k : Nat} {sp : Sp} (D : Df K mg x st) (S : FnScope N ps (defScope st))
    (hb : ∀ (kV doc pm : Value) (an : Option Addr) (cdv ct : Value) (us : List Value), us.length = ps.length → bindArgs (PySem.W.fnOf x x (defArgs st) (defBody st) (defScope st) .none kV doc pm an cdv ct) ⟨us, []⟩ = pure (ps.zip us))
    (len : ∀ vs H Q E, sp vs H Q E → vs.length = ps.length)
    (hbody : ∀ (f : Addr) (cdv : Value) (A : Around) (outer : List Env) (s : Shared) (H : Hp) (vs : List V) (Q : VK) (E : XK), Room k (A.deeper (envOfC x (defScope st) s.heap.objs.size f cdv)) → Quiet (A.deeper (envOfC x (defScope st) s.heap.objs.size f cdv)) → sp vs H Q E →
      ∃ t, PSs (cxOf CX P w K mg base N x (defScope st) f cdv A outer s H E) (defBody st) t ∧ t { nx := fun _ H' => Q .non H', rt := Q } (start N vs) H) : CalG P w K mg base CX x ps (k + 1) sp := by
  obtain ⟨f, fd, g, F⟩ := D
  exact ⟨f, fd, fnG_of F S len (hbody f), g, F.kp, F.bindsN hb⟩
end
section
variable {X : Cx} {CX : CXT} {k : Nat} {ps : List Str} {sp : Sp} {E : XK} {x : Str} {p pos : Pos} {e : Expr} {es : List Expr} {t : TA}
theorem pe_calG (c : CalG X.prog X.w X.K X.mg X.base CX x ps k sp) (hr : Room k X.A) (hq : Quiet X.A) (hg : Gl X x) (hx : Passes CX X E) (ha : PA X (e :: es) t) (hdb : (x == ("__debug__" : Str)) = false := by decide)
    (he : starEach (e :: es) X.env = (false, eval e X.env) :: starEach es X.env := by rfl) (hpl : (backTo pos (starEach es X.env)).any (·.1) = false := by rfl) : PE X (.Call (.Name x p) (e :: es) [] pos) (tCall sp [] E t) := by
  obtain ⟨f, fd, F, g, kp, b⟩ := c
  refine ⟨fun pins s σ H Q I h => ?_⟩
  refine wpAny_Call_Name_kw (ld_glob I hg g ?_ hdb)
  refine PySem.W.callWith_K (h₀ := X.base) I.ok.mod.kin kp (thn (ha.run pos pins s σ H _ I h) fun us s1 ⟨vs, H1, I1, r, q⟩ => ⟨I1.kIn, ?_⟩) he hpl
  have r2 : Vals (vs ++ []) (us ++ []) := r.append .nil
  have hl : (us ++ []).length = ps.length := by rw [← r2.length]; exact F.len _ _ _ _ q
  refine wpAny_call (codeAny_mono (F.run X.A hr hq X.stack s1 H1 ⟨us, []⟩ (us ++ []) (vs ++ []) Q E I1.env0 (b s1 us I1.kIn hl) r2 q) fun r s' hc => ?_)
  rcases r with e | (_ | _ | _ | u)
  · exact hx pins σ H1 s1 e s' I1 hc
  · exact False.elim hc
  · exact False.elim hc
  · exact False.elim hc
  · exact I1.after hc
end
section
variable {P : Program} {w : World} {K : PySem.W.Frag} {mg mb : Str → Option Value} {k : Nat} {fa a : Addr} {fd : FuncData} {x : Str} {sp : Sp} {s : Shared} {vs : List Value} {ns : List Int}
/-- what a law's call comes to -/
abbrev LawEnd (s : Shared) (r : Result) (s' : Shared) : Prop := r = .ok (.ret (.bool true)) ∧ OldK s.heap s'.heap ∧ s'.os = s.os ∧ AllBare s'.gens
/-- the script's own list -/
abbrev scriptO (vs : List Value) : Obj := { cls := .type "list", data := .seq vs.toArray }
/-- the law's call, over an abstract heap in which at most the script stands -/
theorem lawG_at (KX : K.In s.heap) (hns : s.heap.Ns mainGlobals mg) (hb : s.heap.Ns builtinsNs mb) (hbb : ∀ x : Str, x ≠ "__name__" → mb x = bootBuiltins x) (hlim : s.heap.NoLimit) (hg : s.gens = #[]) (ha : s.heap.get? a = some (scriptO vs)) (hr : Room k callerA)
    (F : ∀ base : Heap, K.In base → base.Ns mainGlobals mg → FnG P w K mg base CX0 k fa fd [x] sp) (hbind : ∀ (s : Shared) (u : Value), BindsTo s fd ⟨[u], []⟩ [(x, u)])
    (H : Hp) (only : ∀ b u, H b = some u → b = a ∧ (∃ o xs, u = .frz o (.lst xs)) ∧ K.lookup a = none) (hok : HOk P w H s.heap) (hsp : sp [.ref a] H (fun v _ => v = .bl true) fun _ _ _ => False) :
    codeAny (model P w) callerA (.call (.ref fa) ⟨[.ref a], []⟩) (LawEnd s) s := by
  have free : ∀ {b o}, s.heap.get? b = some o → o ≠ scriptO vs → H b = none := fun {b o} e ne => by
    cases q : H b with
    | none => rfl
    | some u =>
      obtain ⟨rfl, _⟩ := only b u q
      rw [ha] at e
      exact absurd (Option.some.inj e).symm ne
  have nsH : ∀ {b m}, s.heap.Ns b m → (hidT s.heap H).Ns b m := fun {b m} ⟨o, es, ep, e, d, r⟩ => ⟨o, es, ep, hidT_get e (free e fun z => by rw [z] at d; cases d), d, r⟩
  have KH : K.In (hidT s.heap H) := fun b o e => by
    refine hidT_get (KX b o e) ?_
    cases q : H b with
    | none => rfl
    | some u =>
      obtain ⟨rfl, _, n⟩ := only b u q
      rw [n] at e; cases e
  obtain ⟨mc, l1, l2⟩ := hlim
  have e0 : Env0 P w K mg (hidT s.heap H) callerA [] s H := ⟨rfl, ⟨KH, nsH hns, ⟨mb, nsH hb, hbb⟩, mc, nsH l1, l2⟩, fun b o e => of_hidT e, Nat.le_of_eq (hidT_size _ _), trivial, (fun b hb => by cases hb), hok, .of_eq hg⟩
  refine codeAny_mono ((F _ KH (nsH hns)).run callerA hr rfl [] s H ⟨[.ref a], []⟩ [.ref a] [.ref a] _ _ e0 (hbind s (.ref a)) (.cons rfl .nil) hsp) fun r s' h => ?_
  rcases r with e | (_ | _ | _ | u)
  · exact False.elim h
  · exact False.elim h
  · exact False.elim h
  · exact False.elim h
  · obtain ⟨v, H', os, bare, un, hok', rv, q⟩ := h
    obtain rfl : v = .bl true := q
    obtain rfl : u = Value.bool true := rv
    refine ⟨rfl, OldK.of_keep fun b o e => ?_, os, bare⟩
    cases q : H b with
    | none => exact un.keep b o e q (fun z => by cases z) (fun z => by cases z)
    | some u =>
      obtain ⟨_, ⟨ob, xs, rfl⟩, _⟩ := only b u q
      obtain ⟨e1, _⟩ := hok b _ q
      obtain ⟨e2, _⟩ := hok' b _ (un.frzs b ob _ q)
      rw [e] at e1; cases e1
      exact e2
/-- the two ways: the script is an object of the module, or it is new -/
theorem lawG_call (KX : K.In s.heap) (hns : s.heap.Ns mainGlobals mg) (hb : s.heap.Ns builtinsNs mb) (hbb : ∀ x : Str, x ≠ "__name__" → mb x = bootBuiltins x) (hlim : s.heap.NoLimit) (hg : s.gens = #[]) (ha : s.heap.get? a = some (scriptO vs)) (hi : IntsAre vs ns) (hl : ns.length ≤ sizeLine) (hr : Room k callerA)
    (F : ∀ base : Heap, K.In base → base.Ns mainGlobals mg → FnG P w K mg base CX0 k fa fd [x] sp) (hbind : ∀ (s : Shared) (u : Value), BindsTo s fd ⟨[u], []⟩ [(x, u)])
    (hsp : ∀ H : Hp, SqL K H a (ns.map V.int) → sp [.ref a] H (fun v _ => v = .bl true) fun _ _ _ => False) :
    codeAny (model P w) callerA (.call (.ref fa) ⟨[.ref a], []⟩) (LawEnd s) s := by
  have rv := vals_ints hi
  have lenV := hi.length
  cases hk : K.lookup a with
  | some o =>
    have e := KX a o hk
    rw [ha] at e
    cases e
    refine lawG_at KX hns hb hbb hlim hg ha hr F hbind (fun _ => none) (fun b u z => by cases z) (fun b u z => by cases z) (hsp _ (.inr ⟨_, vs.toArray, _, hk, rfl, rfl, rfl, ?_, by simpa using rv⟩))
    rw [List.size_toArray, lenV]; exact hl
  | none =>
    refine lawG_at KX hns hb hbb hlim hg ha hr F hbind (fun b => if b = a then some (.frz (scriptO vs) (.lst (ns.map V.int))) else none) (fun b u z => ?_) (fun b u z => ?_) (hsp _ (.inl (.inr ⟨scriptO vs, if_pos rfl⟩)))
    · by_cases e : b = a
      · rw [if_pos e] at z; cases z
        exact ⟨e, ⟨_, _, rfl⟩, hk⟩
      · rw [if_neg e] at z; cases z
    · by_cases e : b = a
      · subst e
        have z2 := (if_pos rfl).symm.trans z
        cases z2
        exact ⟨ha, by rw [List.length_map]; exact hl, vs, _, rv, ha⟩
      · have z2 := (if_neg e).symm.trans z
        cases z2
end
/-- a law whose defs may show -/
theorem walk_ofG {l : PySem.W.OpenLaw} {n k : Nat} {q : Program} {loose : List Str} {XP : (Str → Option Value) → Heap → Prop} {YP : World → Heap → Prop} {d : DefRec} {x : Str} (hn : l.most = some n) (hn2 : n ≤ sizeLine) (hdf : d.params.defaults = []) (hr : Room k callerA)
    (F : ∀ (w : World) (mg : Str → Option Value) (fa : Addr) (h : Heap), YP w h → h.Ns mainGlobals mg → mg d.name = some (.ref fa) →
      ∃ (K : PySem.W.Frag) (fd : FuncData) (sp : Sp), K.In h ∧ (∀ (s : Shared) (u : Value), BindsTo s fd ⟨[u], []⟩ [(x, u)]) ∧ (∀ (H : Hp) (a : Addr) (ns : List Int), ns.length ≤ n → SqL K H a (ns.map V.int) → sp [.ref a] H (fun v _ => v = .bl true) fun _ _ _ => False) ∧
        ∀ base : Heap, K.In base → base.Ns mainGlobals mg → FnG l.prog w K mg base CX0 k fa fd [x] sp) : PySem.W.WalkO q loose XP YP l.row.toRowW d [] (fun f vs => PySem.call f vs) := by
  refine Att.attach_call hn hdf fun w s₀ s₁ mg mb fa o pm cd doc a vs ns G Y _ _ _ hmg hobj hints hlen hg => ?_
  obtain ⟨K, fd, sp, KX, hb, hsp, hF⟩ := F w mg fa _ Y G.T.g hmg
  exact lawG_call KX G.T.g G.T.b G.T.builtins G.T.nolimit hg hobj hints (Nat.le_trans hlen hn2) hr hF hb fun H hS => hsp H a ns hlen hS
section
variable {X : Cx} {k : Nat}
/-- repr(x), x a list or a tuple of plain data -/
abbrev rRepr (K : PySem.W.Frag) : List V → Hp → VK → Prop := fun xs H Q => ∃ (a : Addr) (d : PyData), xs = [.ref a] ∧ Dp K H (.ref a) d ∧ d.showable = true ∧ d.hasDict = false ∧ d.depth ≤ 100 ∧ d.shown.length ≤ sizeLine ∧ Q (.str d.shown) H
theorem call_repr (hr : Room k X.A) (hq : Quiet X.A) : CallR X (.builtin "repr") (rRepr X.K) := by
  intro pins s σ H xs us Q I r h
  obtain ⟨a, d, rfl, hd, h1, h2, h3, h4, q⟩ := h
  obtain ⟨u, rfl, ru⟩ := r.one
  obtain ⟨as, rd⟩ := Dp.reads I d (.ref a) u hd ru
  obtain rfl : u = Value.ref a := ru
  refine repr_of_reads' rd h1 (fun z => by rw [h2] at z; cases z) hq (by have := hr.un; omega) (fun b o e => e) (fun h' t tk hk => ⟨.str d.shown, H, I.kept fun b o e => hk b o e, ⟨t, rfl⟩, q⟩) h4
end
end Tw
set_option Elab.async false
set_option linter.all false
set_option maxRecDepth 100000
set_option maxHeartbeats 4000000
/-! the law k02 -/
namespace Tw
open PySem PySem.Spec PyProof.Rows L2 TL
local macro_rules | `(tactic| walk_at "rd") => `(tactic| try simp only [o_op, o_un, o_var, o_c, o_cb, o_call, o_cons, o_nil, o_tup, o_lst, o_I0, o_I, o_int1, o_intb, o_abs, o_test, o_b, o_not, o_and, o_or, o_andV, o_orV, o_notV, o_ifE, o_isN, o_notN, o_eq, o_ne, o_seq, o_next, o_asg, o_name, o_sub, o_par, o_par3, o_drop, o_ret, o_retN, o_ifS, o_sl, o_noPart, o_part, o_bm, o_bm0, o_m0, o_m1, o_dget, o_dput, o_din, o_dnotin, o_listKeys, e_bl, e_int, e_str, e_some, e_two, e_three, o_for, o_lc, o_iList, o_iTup, o_iRng1, e_int1, e_ref, o_yes, o_wipe0, o_wipe1, o_disp, o_dnew, o_pairs0, o_pairs1, o_lock, o_keysM, o_gtup, o_gcons, o_gnil, o_rU, o_tru, o_revT, o_enumT, o_from, true_and, if_pos, List.getElem?_cons_zero, List.getElem?_cons_succ, List.set_cons_zero, List.set_cons_succ, List.append_nil])
/-- try: tb; except C as i: ts -/
def tTry (K : PySem.W.Frag) (C : Addr) (i : Nat) (tb : WX → TS) (ts : Addr → Value → Option Addr → TS) : TS := fun D σ H => tb (wAs K (.ref C) i ts (fun _ _ _ _ => False) D) D σ H
/-- what the classes say of each other -/
structure Cf02 (K : PySem.W.Frag) (A_TwigError A_BadRow A_NoName : Addr) : Prop where
  exm : PySem.W.exmOne K (.ref A_BadRow) (.ref A_BadRow) = some true
  noName : PySem.W.kitOne K (.ref A_BadRow) (.ref A_NoName) = some false
  twig : PySem.W.kitOne K (.ref A_BadRow) (.ref A_TwigError) = some true
def t_law02_b1 (K : PySem.W.Frag) (A_TwigError A_BadRow A_NoName : Addr) : TS :=
  (tAsg (tCall (sp_l_spoilt K) [] E0 (tCons (tVar 1) (tCons (tVar 5) (tCons (tVar 4) tNil)))) (gName 5))
def t_law02_tb1 (K : PySem.W.Frag) (A_TwigError A_BadRow A_NoName : Addr) (W : WX) : TS :=
  (tAsg (tCallS (sp_wood_ofG K A_BadRow) (fun σ => WE W σ) (tCons (tVar 7) tNil)) (gName 9))
def t_law02_ts1 (K : PySem.W.Frag) (A_TwigError A_BadRow A_NoName : Addr) (a : Addr) (cls : Value) (d : Option Addr) : TS :=
  (tSeq (tIfS (tOr (tB (tCB (rIsD K A_BadRow cls d a) (tCons (tVar 10) (tCons (tC (.ref A_NoName)) tNil)))) (tNot (tB (tCB (rIsD K A_BadRow cls d a) (tCons (tVar 10) (tCons (tC (.ref A_TwigError)) tNil)))))) (tRet (tC (.bl false))) tNext)
  (tRet (tOp rEq (tCB rReprN (tCons (tXf a cls d A_BadRow "place" (tVar 10)) tNil)) (tCB rReprN (tCons (tIf (tTest (tOp rEq (tVar 3) (tC (.int 2)))) (tC .non) (tVar 8)) tNil)))))
def t_law02_r1 (K : PySem.W.Frag) (A_TwigError A_BadRow A_NoName : Addr) : TS :=
  (tSeq (tAsg (tCall (sp_l_place K) [] E0 (tCons (tVar 5) tNil)) (gName 8))
  (tSeq (tTry K A_BadRow 10 (fun W => (t_law02_tb1 K A_TwigError A_BadRow A_NoName W)) (fun a cls d => (t_law02_ts1 K A_TwigError A_BadRow A_NoName a cls d)))
  (tRet (tAndV (tOp rNe (tVar 3) (tC (.int 2))) (tAndV (tIsN (tVar 8)) (tOp (rEqL K) (tVar 9) (tCall (sp_l_from_row K) [] E0 (tCons (tVar 5) tNil))))))))
def t_law02_r2 (K : PySem.W.Frag) (A_TwigError A_BadRow A_NoName : Addr) : TS :=
  (tSeq (tAsg (tLc (iTup K (tVar 5)) (gName 11) (tTest (tOp rEq (tOp rIxS (tVar 11) (tC (.int 0))) (tC (.str "+")))) (L2.tSl rSlS (tVar 11) (tPart (tC (.int 1))) tNoPart) [11]) (gName 4))
  (tSeq (tFor (iRng1 (tCons (tVar 2) tNil)) (gName 6)
  (t_law02_b1 K A_TwigError A_BadRow A_NoName))
  (tSeq (tAsg (tVar 5) (gName 7))
  (C8.tCut (tIfS (tTest (tOp rEq (tVar 3) (tC (.int 2)))) (tAsg (tCall (sp_l_pick K) [] E0 (tCons (tVar 1) (tCons (tLst (tCons (tCB (rListOf K) (tCons (tVar 5) tNil)) (tCons (tC .non) (tCons (tC (.str "+a-a")) (tCons (tC (.int 7)) (tCons tDNewK (tCons (tC (.bl true)) tNil))))))) tNil))) (gName 7)) tNext)
  (t_law02_r1 K A_TwigError A_BadRow A_NoName)))))
def t_law02 (K : PySem.W.Frag) (A_TwigError A_BadRow A_NoName : Addr) : TS :=
  (tSeq (tAsg (tCall (sp_l_deck K) [] E0 (tCons (tVar 0) tNil)) (gName 1))
  (tSeq (tPar 2 3 (tCons (tCall sp_l_draw [] E0 (tCons (tVar 1) (tCons (tC (.int 4)) tNil))) (tCons (tCall sp_l_draw [] E0 (tCons (tVar 1) (tCons (tC (.int 8)) tNil))) tNil)))
  (C8.tCut (tIfS (tTest (tOp rEq (tVar 3) (tC (.int 1)))) (tSeq (tAsg (tCall sp_l_names [] E0 (tCons (tVar 1) (tCons (tOp (rI0 fun i j => .int (i + j)) (tC (.int 96)) (tCall sp_l_draw [] E0 (tCons (tVar 1) (tCons (tC (.int 9)) tNil)))) tNil))) (gName 4))
  (tAsg (tCall (spR K 121) [] E0 (tCons (tCall (sp_l_tall_wood K) [] E0 (tCons (tVar 1) (tCons (tVar 4) (tCons (tCB (rLenSeq K) (tCons (tVar 4) tNil)) tNil)))) tNil)) (gName 5))) (tAsg (tCall (spR K 121) [] E0 (tCons (tCall (sp_l_some_wood K) [] E0 (tCons (tVar 1) tNil)) tNil)) (gName 5)))
  (t_law02_r2 K A_TwigError A_BadRow A_NoName))))
section
variable {K : PySem.W.Frag} {A_TwigError A_BadRow A_NoName : Addr}
theorem plc_le : ∀ (es : List (Option En)) (k : Nat) (seen st : List Str) (j : Nat), plc es k seen st = some j → j ≤ k + es.length
  | [], k, seen, st, j, h => by
    simp only [plc] at h
    split at h
    · cases h
    · cases h; simp
  | none :: r, k, seen, st, j, h => by simp only [plc] at h; cases h; omega
  | some (true, n) :: r, k, seen, st, j, h => by
    simp only [plc] at h
    split at h
    · cases h; omega
    · have := plc_le r _ _ _ j h; rw [List.length_cons]; omega
  | some (false, n) :: r, k, seen, st, j, h => by
    simp only [plc] at h
    split at h
    · have := plc_le r _ _ _ j h; rw [List.length_cons]; omega
    · cases h; omega
theorem o_callS {sp : Sp} {E : L2.St → XK} {t : TA} {σ : L2.St} {H : Hp} {Q : VK} : tCallS sp E t σ H Q = t σ H fun vs H1 => sp vs H1 Q (E σ) := rfl
/-- the clause's suite: the place is as due -/
theorem law02_ts (cf : Cf02 K A_TwigError A_BadRow A_NoName) {D : Ends} {a d : Addr} {H : Hp} {way : Int} {v due : V} {x0 x1 x2 x4 x5 x6 x7 x9 x11 : Option V} (hd : H d = some (.xd [("place", v)])) (hv : v = .non ∨ ∃ i : Int, v = .int i ∧ i.natAbs.log2 < 1920) (hdue : v = if way = 2 then .non else due)
    (q : D.rt (.bl true) H) : t_law02_ts1 K A_TwigError A_BadRow A_NoName a (.ref A_BadRow) (some d) D [x0, x1, x2, some (.int way), x4, x5, x6, x7, some due, x9, some (.ref a), x11] H := by
  unfold t_law02_ts1
  have ref_ : ∀ {c : Addr} (u : Value), RelV (.ref c) u → u = .ref c := fun u r => by cases r; rfl
  walk_at "rd"
  refine ⟨_, _, false, rfl, rfl, ⟨d, _, rfl, hd⟩, ref_, cf.noName, ?_⟩
  walk_at "rd"
  simp only [Bool.false_eq_true, if_false]
  refine ⟨_, _, true, rfl, rfl, ⟨d, _, rfl, hd⟩, ref_, cf.twig, ?_⟩
  walk_at "rd"
  simp only [Bool.not_true, Bool.false_eq_true, if_false]
  refine ⟨_, rfl, rfl, rfl, d, _, v, rfl, hd, rfl, ?_⟩
  have fin : ∀ z : Str, (∀ (Q : VK), Q (.str z) H → rReprN [v] H Q) → rReprN [v] H fun x H1 => scal (V.int way) (V.int 2) = true ∧ if decide (V.int way = V.int 2) = true then rReprN [V.non] H1 (fun y H2 => scal x y = true ∧ D.rt (.bl (decide (x = y))) H2) else rReprN [due] H1 (fun y H2 => scal x y = true ∧ D.rt (.bl (decide (x = y))) H2) := fun z hz => by
    refine hz _ ⟨rfl, ?_⟩
    by_cases h : way = 2
    · rw [if_pos h] at hdue
      have e1 : decide (V.int way = V.int 2) = true := by rw [h]; rfl
      rw [e1, if_pos rfl, ← hdue]
      exact hz _ ⟨rfl, by simpa using q⟩
    · rw [if_neg h] at hdue
      have e1 : decide (V.int way = V.int 2) = false := by
        rw [decide_eq_false_iff_not]; intro hh; exact h (V.int.inj hh)
      rw [e1, if_neg (by decide), ← hdue]
      exact hz _ ⟨rfl, by simpa using q⟩
  rcases hv with rfl | ⟨i, rfl, hi⟩
  · exact fin _ fun Q q => .inl ⟨rfl, q⟩
  · exact fin _ fun Q q => .inr ⟨i, rfl, hi, q⟩
theorem law02_r1 (cf : Cf02 K A_TwigError A_BadRow A_NoName) {D : Ends} {H : Hp} {way : Int} {r : Addr} {xs : List V} {v : V} {x0 x1 x2 x4 x6 x8 x9 x11 : Option V} (hr : SqT K H r xs) (hi : ∀ x ∈ xs, Itm K H x) (hl : xs.length ≤ 1000)
    (hv : (way = 2 ∧ ((∃ z : Str, v = .str z) ∨ Oth K H v)) ∨ (way ≠ 2 ∧ v = .ref r)) (q : ∀ H', D.rt (.bl true) H') :
    t_law02_r1 K A_TwigError A_BadRow A_NoName D [x0, x1, x2, some (.int way), x4, some (.ref r), x6, some v, x8, x9, none, x11] H := by
  unfold t_law02_r1
  walk_at "rd"
  refine ⟨r, xs, rfl, hr, hi, by omega, fun H1 k1 => ?_⟩
  walk_at "rd"
  show t_law02_tb1 K A_TwigError A_BadRow A_NoName _ _ _ _
  unfold t_law02_tb1
  rw [o_asg, o_callS]
  walk_at "rd"
  have hr1 := Tk.kp k1 _ _ hr
  rcases hv with ⟨hw, hv⟩ | ⟨hw, rfl⟩
  · refine ⟨v, rfl, .inl ⟨hv.imp (fun h => h) (fun h => h.kp k1), fun d hd => ?_⟩⟩
    refine ⟨true, cf.exm, fun _ a ha => ?_, fun h => by cases h⟩
    simp only [List.set_cons_zero, List.set_cons_succ]
    exact law02_ts cf upd_same (.inl rfl) (by rw [if_pos hw]) (q _)
  · cases hp : plc (xs.map endV) 0 [] [] with
    | some k =>
      refine ⟨.ref r, rfl, .inr ⟨r, xs, rfl, hr1, fun x hx => (hi x hx).kp k1, by omega, ?_⟩⟩
      rw [hp]
      intro d H2 k2 hd
      refine ⟨true, cf.exm, fun _ a ha => ?_, fun h => by cases h⟩
      simp only [List.set_cons_zero, List.set_cons_succ]
      have hk := plc_le _ _ _ _ _ hp
      rw [List.length_map] at hk
      refine law02_ts cf upd_same (.inr ⟨(k : Int), rfl, ?_⟩) (by rw [if_neg hw]; rfl) (q _)
      have : ((k : Int)).natAbs.log2 ≤ ((k : Int)).natAbs := Nat.log2_le_self _
      simp only [Int.natAbs_natCast] at this ⊢
      omega
    | none =>
      refine ⟨.ref r, rfl, .inr ⟨r, xs, rfl, hr1, fun x hx => (hi x hx).kp k1, by omega, ?_⟩⟩
      rw [hp]
      intro p f H2 k2 hx ok hwd
      walk_at "rd"
      simp only [oi]
      have e1 : decide (V.int way = V.int 2) = false := by
        rw [decide_eq_false_iff_not]; intro hh; exact hw (V.int.inj hh)
      refine ⟨rfl, ?_⟩
      rw [e1]
      simp only [Bool.not_false, if_true, decide_true]
      have hr2 := Tk.kp k2 _ _ hr1
      rw [hx] at hr2
      refine ⟨r, f, rfl, hr2, ok.ok, fun p3 H3 k3 hw3 => ?_⟩
      exact o_eqWoodL (hwd.mono (Tk.kp k3)) hw3 ok.nms ok.dp (q H3)
/-- [end[1:] for end in row if end[0] == '+'] -/
theorem lc_tails {H : Hp} {r : Addr} {xs : List Str} {x0 x1 x2 x3 x4 x5 x6 x7 x8 x9 x10 x11 : Option V} {Q : VK} (hr : SqT K H r (xs.map V.str)) (hx : ∀ z ∈ xs, 1 ≤ z.length ∧ z.length ≤ 100) (hl : xs.length ≤ 1000)
    (q : ∀ (D : Addr) (zs : List Str) H', Kp H H' → H D = none → H' D = some (.lst (zs.map V.str)) → (∀ z ∈ zs, z.length ≤ 100) → zs.length ≤ 1000 → Q (.ref D) H') :
    LcB (Itt K r) (gName 11) (tTest (tOp rEq (tOp rIxS (tVar 11) (tC (.int 0))) (tC (.str "+")))) (L2.tSl rSlS (tVar 11) (tPart (tC (.int 1))) tNoPart) [11] [x0, x1, x2, x3, x4, x5, x6, x7, x8, x9, x10, x11] H Q := by
  have hz := sizeLine_eq
  refine lb_walk (n := (xs.map V.str).length) walk_tup (fun D i H2 => H D = none ∧ Kp H H2 ∧ ∃ zs : List Str, H2 D = some (.lst (zs.map V.str)) ∧ (∀ z ∈ zs, z.length ≤ 100) ∧ zs.length ≤ i) ?_ ?_ ?_ ?_
  · intro D hD
    exact ⟨hD, (show Kp H H from fun _ _ h => h).new hD, [], upd_same, fun z h => (by cases h), Nat.le_refl _⟩
  · rintro D i H2 hi ⟨hD, k2, _⟩
    exact Tk.kp k2 _ _ hr
  · rintro D i v H2 H3 hi ⟨hD, k2, zs, h2, hzs, hzl⟩ ⟨rfl, hv⟩
    rw [List.getElem?_map, Option.map_eq_some_iff] at hv
    obtain ⟨z, hzm, rfl⟩ := hv
    obtain ⟨h1, h100⟩ := hx z (List.mem_of_getElem? hzm)
    have hi2 : i < xs.length := by simpa using hi
    show gName 11 (.str z) _ _ _
    walk_at "rd"
    cases hzc : z.cps.toList with
    | nil => rw [len_tl, hzc] at h1; simp at h1
    | cons c rest =>
      refine o_ixS (by omega) (show atI z.cps.toList 0 = some c from by rw [hzc]; exact atI_nat (j := 0) rfl) ⟨rfl, ?_⟩
      have hcl : (cutS z (some 1) none).length ≤ 100 := by
        rw [len_tl, cut1, List.length_drop, ← len_tl]; omega
      refine ite2 (fun _ => ?_) fun _ => ?_
      · walk_at "rd"
        refine ⟨z, rfl, by omega, zs.map V.str, h2, by rw [List.length_map]; omega, hD, fun b o e => by rw [upd_ne (ne_of_none e hD)]; exact k2 _ _ e, zs ++ [cutS z (some 1) none], by rw [upd_same]; simp, fun y hy => ?_, by rw [List.length_append, List.length_singleton]; omega⟩
        rcases List.mem_append.mp hy with hy | hy
        · exact hzs y hy
        · rw [List.mem_singleton.mp hy]; exact hcl
      · exact ⟨hD, k2, zs, h2, hzs, by omega⟩
  · rintro D H2 hD ⟨_, k2, zs, h2, hzs, hzl⟩
    rw [List.length_map] at hzl
    exact q D zs H2 k2 hD h2 hzs (by omega)
theorem law02_r2 (cf : Cf02 K A_TwigError A_BadRow A_NoName) {D : Ends} {H : Hp} {d r : Addr} {f : Fo} {many way : Int} {x0 x4 : Option V} (hd : DeckAt H d) (hr : SqT K H r (f.row.map V.str)) (hn : ∀ z ∈ f.nm, IsName z) (hl : f.nm.length ≤ 200) (m0 : 0 ≤ many) (m1 : many < 4) (q : ∀ H', D.rt (.bl true) H') :
    t_law02_r2 K A_TwigError A_BadRow A_NoName D [x0, some (.ref d), some (.int many), some (.int way), x4, some (.ref r), none, none, none, none, none, none] H := by
  unfold t_law02_r2
  have hz := sizeLine_eq
  have hrl := row_len f
  have hends : ∀ z ∈ f.row, 1 ≤ z.length ∧ z.length ≤ 100 := by
    rw [Fo.row_erow]
    intro z hz
    obtain ⟨e, he, rfl⟩ := List.mem_map.mp hz
    have := (hn _ (erow_nm f e he)).eight
    rw [en_len]; omega
  walk_at "rd"
  refine ⟨⟨_, hr⟩, lc_tails hr hends (by omega) fun l zs H1 k1 hln hl1 hzs hzl => ?_⟩
  have hld : l ≠ d := deck_ne hd hln
  have hd1 : DeckAt H1 d := by obtain ⟨x, y, z, e⟩ := hd; exact ⟨x, y, z, k1 _ _ e⟩
  have hr1 := Tk.kp k1 _ _ hr
  walk_at "rd"
  refine ⟨by omega, by omega, fb_range (fun i σ H2 => ∃ (r2 : Addr) (xs : List V) (x6 : Option V), Dk d H1 H2 ∧ SqT K H2 r2 xs ∧ (∀ x ∈ xs, Itm K H2 x) ∧ xs.length ≤ 400 + 2 * i ∧
    σ = [x0, some (.ref d), some (.int many), some (.int way), some (.ref l), some (.ref r2), x6, none, none, none, none, none]) ?_ ?_ ?_⟩
  · refine ⟨r, _, _, Dk.refl hd1, hr1, fun x hx => ?_, by rw [List.length_map, hrl]; omega, rfl⟩
    obtain ⟨z, hzm, rfl⟩ := List.mem_map.mp hx
    exact .inl ⟨z, rfl, by have := hends z hzm; omega⟩
  · rintro i σ H2 hi ⟨r2, xs, x6, k2, hr2, hi2, hl2, rfl⟩
    walk_at "rd"
    unfold t_law02_b1
    walk_at "rd"
    refine ⟨d, r2, l, xs, zs, rfl, k2.deck, hr2, hi2, by omega, k2.keep _ _ hl1 hld, hld, hzl, hzs, fun p ys H3 k3 hp hys hyl => ?_⟩
    walk_at "rd"
    exact ⟨p, ys, _, k2.trans k3, hp, hys, by omega, rfl⟩
  · rintro σ H2 ⟨r2, xs, x6, k2, hr2, hi2, hl2, rfl⟩
    have hl3 : xs.length ≤ 1000 := by omega
    walk_at "rd"
    refine ⟨fun σ H3 => ∃ v, SqT K H3 r2 xs ∧ (∀ x ∈ xs, Itm K H3 x) ∧ ((way = 2 ∧ ((∃ z : Str, v = .str z) ∨ Oth K H3 v)) ∨ (way ≠ 2 ∧ v = .ref r2)) ∧
      σ = [x0, some (.ref d), some (.int many), some (.int way), some (.ref l), some (.ref r2), x6, some v, none, none, none, none], ?_, ?_⟩
    · walk_at "rd"
      refine ⟨rfl, ite2 (fun hw => ?_) fun hw => ?_⟩
      · have hw2 : way = 2 := V.int.inj (of_decide_eq_true hw)
        walk_at "rd"
        refine ⟨r2, xs, rfl, .inr hr2, fun p1 hp1 => ?_⟩
        generalize hG : upd H2 p1 _ = H3
        obtain ⟨k3, e3⟩ := gen_new hp1 hG
        clear hG
        intro p2 hp2
        generalize hG : upd H3 p2 _ = H4
        obtain ⟨k4, e4⟩ := gen_new hp2 hG
        clear hG
        refine ⟨by show 6 ≤ sizeLine; omega, fun p3 hp3 => ?_⟩
        generalize hG : upd H4 p3 _ = H5
        obtain ⟨k5, e5⟩ := gen_new hp3 hG
        clear hG
        have k25 : Kp H2 H5 := fun b o e => k5 _ _ (k4 _ _ (k3 _ _ e))
        have hd5 := (kp_dk k2 k25).deck
        have hp3d : p3 ≠ d := fun e => by
          obtain ⟨x, y, z, h⟩ := k2.deck
          have := k4 _ _ (k3 _ _ h)
          rw [e, this] at hp3; cases hp3
        refine ⟨d, p3, _, rfl, hd5, SqL.of e5, hp3d, by simp, by simp, fun x H6 hx k6 => ?_⟩
        walk_at "rd"
        refine ⟨x, k6.tk hd5 _ _ (Tk.kp k25 _ _ hr2), fun y hy => ((hi2 y hy).kp k25).dk k6 hd5, .inl ⟨hw2, ?_⟩, rfl⟩
        simp only [List.mem_cons, List.not_mem_nil, or_false] at hx
        rcases hx with rfl | rfl | rfl | rfl | rfl | rfl
        · exact .inr ((Oth.lst (k5 _ _ (k4 _ _ e3))).dk k6 hd5)
        · exact .inr .non
        · exact .inl ⟨_, rfl⟩
        · exact .inr (.int _)
        · exact .inr ((Oth.dic (k5 _ _ e4)).dk k6 hd5)
        · exact .inr (.bl _)
      · have hw2 : way ≠ 2 := fun e => hw (by rw [e]; rfl)
        walk_at "rd"
        exact ⟨_, hr2, hi2, .inr ⟨hw2, rfl⟩, rfl⟩
    · rintro σ H3 ⟨v, hr3, hi3, hv, rfl⟩
      exact law02_r1 cf hr3 hi3 hl3 hv q
theorem pure_law02 (cf : Cf02 K A_TwigError A_BadRow A_NoName) (vs : List V) (H : Hp) (Q : VK) (E : XK) (h : sp_law K vs H Q E) : t_law02 K A_TwigError A_BadRow A_NoName { nx := fun _ H' => Q .non H', rt := Q } (startN 12 vs) H := by
  obtain ⟨a, ns, rfl, _, hs, q⟩ := h
  show t_law02 K A_TwigError A_BadRow A_NoName _ [some (.ref a), none, none, none, none, none, none, none, none, none, none, none] H
  unfold t_law02
  walk_at "rd"
  refine ⟨a, ns, rfl, hs, fun d H1 k1 hd _ => ?_⟩
  walk_at "rd"
  refine o_draw hd (by decide) (by decide) fun many H2 m0 m1 k2 => ?_
  refine o_draw k2.deck (by decide) (by decide) fun way H3 w0 w1 k3 => ?_
  walk_at "rd"
  have h8 : ∀ {f : Fo}, (∀ z ∈ f.nm, IsName z) → ∀ z ∈ f.nm, z.length ≤ 100 := fun h z hz => by have := (h z hz).eight; omega
  refine ⟨fun σ H4 => ∃ (r : Addr) (f : Fo) (x4 : Option V), DeckAt H4 d ∧ SqT K H4 r (f.row.map V.str) ∧ (∀ z ∈ f.nm, IsName z) ∧ f.nm.length ≤ 200 ∧ σ = [some (.ref a), some (.ref d), some (.int many), some (.int way), x4, some (.ref r), none, none, none, none, none, none], ?_, ?_⟩
  · walk_at "rd"
    refine ⟨rfl, ite2 (fun _ => ?_) fun _ => ?_⟩
    · walk_at "rd"
      refine o_draw k3.deck (by decide) (by decide) fun m H4 a0 a1 k4 => ?_
      walk_at "rd"
      refine o_names k4.deck (by omega) (by omega) fun np zs H5 hnp k5 hz hzl nd hnm => ?_
      have npd : np ≠ d := deck_ne k4.deck hnp
      walk_at "rd"
      refine ⟨np, _, rfl, .inl (SqL.of hz), ?_⟩
      walk_at "rd"
      rw [List.length_map]
      refine ⟨d, np, zs, _, rfl, k5.deck, SqL.of hz, npd, nd, hnm, by omega, by omega, by omega, fun w2 H6 f2 k6 hw2 hpm hdp => ?_⟩
      have hlen := hpm.length_eq
      have hn2 : ∀ z ∈ f2.nm, IsName z := fun z hz => hnm z (hpm.mem_iff.mp hz)
      refine ⟨w2, f2, rfl, hw2, by show f2.dp ≤ 120; omega, by omega, h8 hn2, fun p H7 k7 hp => ?_⟩
      walk_at "rd"
      exact ⟨p, f2, _, (kp_dk k6 k7).deck, hp, hn2, by omega, rfl⟩
    · walk_at "rd"
      refine ⟨d, rfl, k3.deck, fun w f H4 k4 hw hg => ?_⟩
      have hgs := hg.sz
      have hgd := hg.dp
      refine ⟨w, f, rfl, hw, by show f.dp ≤ 120; omega, by omega, h8 hg.nms, fun p H5 k5 hp => ?_⟩
      walk_at "rd"
      exact ⟨p, f, _, (kp_dk k4 k5).deck, hp, hg.nms, by omega, rfl⟩
  · rintro σ H4 ⟨r, f, x4, hd4, hr, hn, hl, rfl⟩
    exact law02_r2 cf hd4 hr hn hl m0 m1 q
end
end Tw
set_option Elab.async false
set_option linter.all false
set_option maxRecDepth 100000
set_option maxHeartbeats 0
namespace TwLaw
open PySem PySem.Spec PyProof.Rows L2 Tw
def top (i : Nat) : Stmt := PySem.Challenge.pw_twigscripts_k02_rows_that_are_none.main.body.getD i (.Pass ⟨0, 0, 0, 0⟩)
abbrev s_is_name : Stmt := top 6
abbrev s_u_is_end : Stmt := top 11
abbrev s_u_bad_place : Stmt := top 10
abbrev s_unchecked_wood : Stmt := top 12
abbrev s_wood_of : Stmt := top 9
abbrev s_l_deck : Stmt := top 14
abbrev s_l_wood_of : Stmt := top 15
abbrev s_l_draw : Stmt := top 16
abbrev s_l_wood : Stmt := top 17
abbrev s_l_tall_wood : Stmt := top 18
abbrev s_l_name : Stmt := top 19
abbrev s_l_names : Stmt := top 20
abbrev s_l_wood_and_names : Stmt := top 21
abbrev s_l_some_wood : Stmt := top 22
abbrev s_l_row : Stmt := top 23
abbrev s_l_from_row : Stmt := top 24
abbrev s_l_pick : Stmt := top 25
abbrev s_l_odd : Stmt := top 26
abbrev s_l_is_name : Stmt := top 27
abbrev s_l_place : Stmt := top 28
abbrev s_l_bad_name : Stmt := top 29
abbrev s_l_spoilt : Stmt := top 30
abbrev s_law : Stmt := top 31
def inCls (s : Stmt) (i : Nat) : Stmt := match s with
  | .ClassDef _ _ _ b _ _ _ _ _ _ _ => b.getD i (.Pass ⟨0, 0, 0, 0⟩)
  | _ => .Pass ⟨0, 0, 0, 0⟩
abbrev s_BadRow_init : Stmt := inCls (top 2) 0
section
variable {P : Program} {w : World} {K : PySem.W.Frag} {mg : Str → Option Value} {base : Heap}
abbrev N_BadRow_init : List Str := ["self", "place"]
theorem sc_BadRow_init : FnScope N_BadRow_init ["self", "place"] (defScope s_BadRow_init) := ⟨rfl, rfl, rfl, by decide +kernel, rfl, by decide +kernel, by decide +kernel⟩
theorem ok_BadRow_init {fI : Addr} {fd : FuncData} (F : FunD K "__init__" "BadRow.__init__" (defArgs s_BadRow_init) (defBody s_BadRow_init) (defScope s_BadRow_init) [] [] fI fd) {C : Addr} : FnOk P w K mg base CX0 1 fI fd ["self", "place"] (sp_init1 K C "place") := by
  refine F.ok (k := 0) sc_BadRow_init len_init1 (fun cdv A outer s H vs Q E hr h => ⟨t_init1 K "place", PSs.nox ?_, by rw [start_n (n := 2) rfl]; exact pure_init1 vs H Q E h⟩)
  have nd := sc_BadRow_init.nd
  exact (pss_one (ps_ost (pv 0) (pv 1)))
abbrev N_is_name : List Str := ["value"]
theorem sc_is_name : FnScope N_is_name ["value"] (defScope s_is_name) := ⟨rfl, rfl, rfl, by decide +kernel, rfl, by decide +kernel, by decide +kernel⟩
theorem ok_is_name (Dd : Df K mg "is_name" s_is_name) (n_isinstance : mg "isinstance" = none) (n_str : mg "str" = none) (n_len : mg "len" = none) {t__LONGEST : Tok} (g__LONGEST : mg "_LONGEST" = some (.int 8 t__LONGEST)) : Cal P w K mg base CX0 "is_name" ["value"] 1 (sp_is_name K) := by
  refine Dd.cal (k := 0) (N := N_is_name) sc_is_name (fun _ _ _ _ _ _ us hl => match us, hl with | [_], _ => rfl) len_is_name (fun f cdv A outer s H vs Q E hr h => ⟨t_is_name K, PSs.nox ?_, by rw [start_n (n := 1) rfl]; exact pure_is_name vs H Q E h⟩)
  have nd := sc_is_name.nd
  exact (pss_cons (ps_if (PW.pt (pw_or (pt_not (pt_val (pe_isiB n_isinstance n_str (pv 0)))) (pw_or1 (pt_cmpR op_gt (pe_callB call_len_str (by rfl) n_len (by decide +kernel) (pa_cons (pv 0) pa_nil)) (pe_glob (by rfl) g__LONGEST ⟨_, rfl⟩) (nomark _))))) (pss_one (ps_ret pe_bl)) pss_nil)
      (pss_one (ps_ret (pe_and (pe_m0 PySem.F.slot_str_isascii PySem.F.type_str_isascii mt_isascii (pv 0)) (pe_and (pe_m0 PySem.F.slot_str_isalpha PySem.F.type_str_isalpha mt_isalpha (pv 0)) (pe_one (pe_m0 PySem.F.slot_str_islower PySem.F.type_str_islower mt_islower (pv 0))))))))
abbrev N_u_is_end : List Str := ["value"]
theorem sc_u_is_end : FnScope N_u_is_end ["value"] (defScope s_u_is_end) := ⟨rfl, rfl, rfl, by decide +kernel, rfl, by decide +kernel, by decide +kernel⟩
theorem ok_u_is_end (Dd : Df K mg "_is_end" s_u_is_end) (n_isinstance : mg "isinstance" = none) (n_str : mg "str" = none) (C_is_name : Cal P w K mg base CX0 "is_name" ["value"] 1 (sp_is_name K)) : Cal P w K mg base CX0 "_is_end" ["value"] 2 (sp_u_is_end K) := by
  refine Dd.cal (k := 1) (N := N_u_is_end) sc_u_is_end (fun _ _ _ _ _ _ us hl => match us, hl with | [_], _ => rfl) len_u_is_end (fun f cdv A outer s H vs Q E hr h => ⟨t_u_is_end K, PSs.nox ?_, by rw [start_n (n := 1) rfl]; exact pure_u_is_end vs H Q E h⟩)
  have nd := sc_u_is_end.nd
  exact (pss_one (ps_ret (pe_and (pe_isiB n_isinstance n_str (pv 0)) (pe_and (pe_cmpR op_in_seq (pe_slice sl_str (pv 0) po_none (po_some pe_int)) (pe_tup (pa_cons pe_str (pa_cons pe_str pa_nil))) (by rfl)) (pe_one (pe_cal C_is_name (hr.mono (by omega)) (by rfl) pass0 (pa_cons (pe_slice sl_str (pv 0) (po_some pe_int) po_none) pa_nil)))))))
abbrev N_u_bad_place : List Str := ["row", "seen", "around", "place", "end", "name"]
theorem sc_u_bad_place : FnScope N_u_bad_place ["row"] (defScope s_u_bad_place) := ⟨rfl, rfl, rfl, by decide +kernel, rfl, by decide +kernel, by decide +kernel⟩
theorem ok_u_bad_place (Dd : Df K mg "_bad_place" s_u_bad_place) (n_enumerate : mg "enumerate" = none) (n_len : mg "len" = none) {t__MOST_AROUND : Tok} (g__MOST_AROUND : mg "_MOST_AROUND" = some (.int 100 t__MOST_AROUND)) (C_u_is_end : Cal P w K mg base CX0 "_is_end" ["value"] 2 (sp_u_is_end K)) : Cal P w K mg base CX0 "_bad_place" ["row"] 3 (sp_u_bad_placeG K) := by
  refine Dd.cal (k := 2) (N := N_u_bad_place) sc_u_bad_place (fun _ _ _ _ _ _ us hl => match us, hl with | [_], _ => rfl) len_u_bad_placeG (fun f cdv A outer s H vs Q E hr h => ⟨t_u_bad_place K, PSs.nox ?_, by rw [start_n (n := 6) rfl]; exact pure_u_bad_placeG vs H Q E h⟩)
  have nd := sc_u_bad_place.nd
  exact (pss_cons (ps_set (i := 1) nd rfl (Or.inl rfl) pe_dnewK)
      (pss_cons (ps_set (i := 2) nd rfl (Or.inl rfl) (pe_lst pa_nil))
      (pss_cons (ps_for PassesOwn.never (by rfl) (pi_enumT (by rfl) n_enumerate (pa_cons (pv 0) pa_nil)) (pg_tup rfl (pgs_cons (pg_name (i := 3) nd rfl (Or.inl rfl)) (pgs_cons (pg_name (i := 4) nd rfl (Or.inl rfl)) pgs_nil)))
      (pss_cons (ps_if (pt_not (pt_val (pe_cal C_u_is_end (hr.mono (by omega)) (by rfl) pass0 (pa_cons (pv 4) pa_nil)))) (pss_one (ps_ret (pv 3))) pss_nil)
      (pss_cons (ps_set (i := 5) nd rfl (Or.inl rfl) (pe_slice sl_str (pv 4) (po_some pe_int) po_none))
      (pss_one (ps_if (pt_cmpR op_eq (pe_ix ix_str (pv 4) pe_int (fun _ _ => rfl)) pe_str (nomark _)) (pss_cons (ps_if (PW.pt (pw_or (pt_cmp (pc_din (hu_of hr) (pv 5) (pv 1))) (pw_or1 (pt_cmpR op_eq (pe_callB call_len_seq (by rfl) n_len (by decide +kernel) (pa_cons (pv 2) pa_nil)) (pe_glob (by rfl) g__MOST_AROUND ⟨_, rfl⟩) (nomark _))))) (pss_one (ps_ret (pv 3))) pss_nil)
      (pss_cons (ps_dput (hu_of hr) (pv 1) (pv 5) pe_bl rfl)
      (pss_one (ps_expr (pe_bm PySem.F.plainAttrs_list PySem.F.slot_list_append PySem.F.type_list_append mt_append (pv 2) (pa_cons (pv 5) pa_nil)))))) (pss_cons (ps_if (pt_cmpR (op_neB hr) (pe_slice sl_list (pv 2) (po_some (pe_un un_neg pe_int)) po_none) (pe_lst (pa_cons (pv 5) pa_nil)) (nomark _)) (pss_one (ps_ret (pv 3))) pss_nil)
      (pss_one (ps_expr (pe_bm0 PySem.F.plainAttrs_list PySem.F.slot_list_pop PySem.F.type_list_pop mt_pop (pv 2))))))))))
      (pss_one (ps_ret (pe_ifExp (pt_truth (pv 2) (by intro _; rfl)) (pe_callB call_len_seq (by rfl) n_len (by decide +kernel) (pa_cons (pv 0) pa_nil)) pe_non))))))
abbrev N_unchecked_wood : List Str := ["row", "done", "begins", "end", "begin"]
theorem sc_unchecked_wood : FnScope N_unchecked_wood ["row"] (defScope s_unchecked_wood) := ⟨rfl, rfl, rfl, by decide +kernel, rfl, by decide +kernel, by decide +kernel⟩
theorem ok_unchecked_wood (Dd : Df K mg "unchecked_wood" s_unchecked_wood) (n_len : mg "len" = none) (n_tuple : mg "tuple" = none) : Cal P w K mg base CX0 "unchecked_wood" ["row"] 1 (sp_unchecked_wood K) := by
  refine Dd.cal (k := 0) (N := N_unchecked_wood) sc_unchecked_wood (fun _ _ _ _ _ _ us hl => match us, hl with | [_], _ => rfl) len_unchecked_wood (fun f cdv A outer s H vs Q E hr h => ⟨t_unchecked_wood K, PSs.nox ?_, by rw [start_n (n := 5) rfl]; exact pure_unchecked_wood vs H Q E h⟩)
  have nd := sc_unchecked_wood.nd
  exact (pss_cons (ps_set (i := 1) nd rfl (Or.inl rfl) (pe_lst pa_nil))
      (pss_cons (ps_set (i := 2) nd rfl (Or.inl rfl) (pe_lst pa_nil))
      (pss_cons (ps_for PassesOwn.never (by rfl) (pi_seq (pv 0)) (pg_name (i := 3) nd rfl (Or.inl rfl))
      (pss_one (ps_if (pt_cmpR op_eq (pe_ix ix_str (pv 3) pe_int (fun _ _ => rfl)) pe_str (nomark _)) (pss_one (ps_expr (pe_bm PySem.F.plainAttrs_list PySem.F.slot_list_append PySem.F.type_list_append mt_append (pv 2) (pa_cons (pe_callB call_len_seq (by rfl) n_len (by decide +kernel) (pa_cons (pv 1) pa_nil)) pa_nil)))) (pss_cons (ps_set (i := 4) nd rfl (Or.inl rfl) (pe_bm0 PySem.F.plainAttrs_list PySem.F.slot_list_pop PySem.F.type_list_pop mt_pop (pv 2)))
      (pss_one (ps_asg (pe_lst (pa_cons (pe_tup (pa_cons (pe_slice sl_str (pv 3) (po_some pe_int) po_none) (pa_cons (pe_callTy call_tuple_of (by rfl) n_tuple (by decide +kernel) (pa_cons (pe_slice sl_list (pv 1) (po_some (pv 4)) po_none) pa_nil)) pa_nil))) pa_nil)) (pg_from (pv 1) (pv 4) (by intro _; rfl))))))))
      (pss_one (ps_ret (pe_callTy call_tuple_of (by rfl) n_tuple (by decide +kernel) (pa_cons (pv 1) pa_nil)))))))
abbrev N_wood_of : List Str := ["value", "place"]
theorem sc_wood_of : FnScope N_wood_of ["value"] (defScope s_wood_of) := ⟨rfl, rfl, rfl, by decide +kernel, rfl, by decide +kernel, by decide +kernel⟩
theorem ok_wood_of (Dd : Df K mg "wood_of" s_wood_of) {A_TwigError A_BadRow A_NoName : Addr} (g_TwigError : mg "TwigError" = some (.ref A_TwigError)) (g_BadRow : mg "BadRow" = some (.ref A_BadRow)) (g_NoName : mg "NoName" = some (.ref A_NoName)) (c_BadRow : Cls1 P w K mg base "BadRow" "place" A_BadRow 1) (cf : Cf02 K A_TwigError A_BadRow A_NoName) (n_isinstance : mg "isinstance" = none) (n_tuple : mg "tuple" = none) (C_u_bad_place : Cal P w K mg base CX0 "_bad_place" ["row"] 3 (sp_u_bad_placeG K)) (C_unchecked_wood : Cal P w K mg base CX0 "unchecked_wood" ["row"] 1 (sp_unchecked_wood K)) : Cal P w K mg base (L2.CX P w) "wood_of" ["value"] 4 (sp_wood_ofG K A_BadRow) := by
  refine Dd.cal (k := 3) (N := N_wood_of) sc_wood_of (fun _ _ _ _ _ _ us hl => match us, hl with | [_], _ => rfl) len_wood_ofG (fun f cdv A outer s H vs Q E hr h => ⟨t_wood_ofG K A_BadRow E, ?_, by rw [start_n (n := 2) rfl]; exact pure_wood_ofG vs H Q E h⟩)
  have nd := sc_wood_of.nd
  have tk : Takes (cxOf (L2.CX P w) P w K mg base N_wood_of "wood_of" (defScope s_wood_of) f cdv A outer s H E) (fun cls d _ H => E cls d H) := takes_of rfl rfl rfl rfl
  exact (pss_cons (ps_if (pt_not (pt_val (pe_isiB n_isinstance n_tuple (pv 0)))) (pss_one (ps_rz rfl tk (pmk1 c_BadRow (hr.mono (by omega)) (by rfl) pe_non mono_c))) pss_nil)
      (pss_cons (ps_set (i := 1) nd rfl (Or.inl rfl) (pe_cal C_u_bad_place (hr.mono (by omega)) (by rfl) pass0 (pa_cons (pv 0) pa_nil)))
      (pss_cons (ps_if (pt_cmp (pc_notN (pv 1))) (pss_one (ps_rz rfl tk (pmk1 c_BadRow (hr.mono (by omega)) (by rfl) (pv 1) mono_var))) pss_nil)
      (pss_one (ps_ret (pe_cal C_unchecked_wood (hr.mono (by omega)) (by rfl) pass0 (pa_cons (pv 0) pa_nil)))))))
abbrev N_l_deck : List Str := ["_law_script", "_law_great", "_law_mixed", "_law_cell", "_law_more"]
theorem sc_l_deck : FnScope N_l_deck ["_law_script"] (defScope s_l_deck) := ⟨rfl, rfl, rfl, by decide +kernel, rfl, by decide +kernel, by decide +kernel⟩
theorem ok_l_deck (Dd : Df K mg "_law_deck" s_l_deck) (n_len : mg "len" = none) (n_abs : mg "abs" = none) (n_int : mg "int" = none) : Cal P w K mg base CX0 "_law_deck" ["_law_script"] 1 (sp_l_deck K) := by
  refine Dd.cal (k := 0) (N := N_l_deck) sc_l_deck (fun _ _ _ _ _ _ us hl => match us, hl with | [_], _ => rfl) len_l_deck (fun f cdv A outer s H vs Q E hr h => ⟨t_l_deck K, PSs.nox ?_, by rw [start_n (n := 5) rfl]; exact pure_l_deck vs H Q E h⟩)
  have nd := sc_l_deck.nd
  exact (pss_cons (ps_par (i := 1) (j := 2) (by rfl) nd rfl rfl (by decide) rfl rfl (pa_cons pe_int (pa_cons (pe_op op_add pe_int (pe_op op_mul pe_int (pe_callB call_len_seq (by rfl) n_len (by decide +kernel) (pa_cons (pv 0) pa_nil)))) pa_nil)) (by rfl))
      (pss_cons (ps_for PassesOwn.never (by rfl) (pi_list (pe_slice sl_list (pv 0) po_none (po_some pe_int))) (pg_name (i := 3) nd rfl (Or.inl rfl))
      (pss_cons (ps_set (i := 4) nd rfl (Or.inl rfl) (pe_op op_add (pe_op op_add (pe_op op_mul pe_int (pe_callB call_abs (by rfl) n_abs (by decide +kernel) (pa_cons (pv 3) pa_nil))) (pe_callTy call_int1 (by rfl) n_int (by decide +kernel) (pa_cons (pe_cmpR op_lt (pv 3) pe_int (nomark _)) pa_nil))) pe_int))
      (pss_cons (ps_set (i := 2) nd rfl (Or.inl rfl) (pe_op op_mod (pe_callTy call_int1 (by rfl) n_int (by decide +kernel) (pa_cons (pe_op op_add (pe_op op_mul (pv 2) pe_int) (pv 4)) pa_nil)) pe_int))
      (pss_one (ps_if (pt_cmpR op_ge (pe_callB call_abs (by rfl) n_abs (by decide +kernel) (pa_cons (pv 3) pa_nil)) (pe_op op_pow pe_int pe_int) (nomark _)) (pss_one (ps_set (i := 1) nd rfl (Or.inl rfl) (pe_op op_add (pe_op op_mul (pv 1) pe_int) (pe_callB call_abs (by rfl) n_abs (by decide +kernel) (pa_cons (pv 3) pa_nil))))) pss_nil)))))
      (pss_one (ps_ret (pe_lst (pa_cons (pv 1) (pa_cons (pv 2) (pa_cons pe_int pa_nil))))))))
abbrev N_l_wood_of : List Str := ["_law_kids", "_law_name_here", "_law_kid"]
theorem sc_l_wood_of : FnScope N_l_wood_of ["_law_kids", "_law_name_here"] (defScope s_l_wood_of) := ⟨rfl, rfl, rfl, by decide +kernel, rfl, by decide +kernel, by decide +kernel⟩
theorem st_l_wood_of (Dd : Df K mg "_law_wood_of" s_l_wood_of) (n_tuple : mg "tuple" = none) {m : Nat} (REC : Cal P w K mg base CX0 "_law_wood_of" ["_law_kids", "_law_name_here"] (m + 1) (spW K m)) : Cal P w K mg base CX0 "_law_wood_of" ["_law_kids", "_law_name_here"] (m + 1 + 1) (spW K (m + 1)) := by
  refine Dd.cal (k := m + 1) (N := N_l_wood_of) sc_l_wood_of (fun _ _ _ _ _ _ us hl => match us, hl with | [_, _], _ => rfl) len_spW (fun f cdv A outer s H vs Q E hr h => ⟨t_l_wood_of K (spW K m), PSs.nox ?_, by rw [start_n (n := 3) rfl]; exact pure_l_wood_of vs H Q E h⟩)
  have nd := sc_l_wood_of.nd
  exact (pss_one (ps_ret (pe_callTy call_tuple_of (by rfl) n_tuple (by decide +kernel) (pa_cons (pe_lc (own := [("_law_kid", 2)]) (g := gName 2) (by rfl) nd (pi_list (pe_dget (hu_of hr) (pv 0) (pv 1) (fun _ _ => rfl))) (blkOk_by (own := [("_law_kid", 2)]) (N := N_l_wood_of) (sc := defScope s_l_wood_of) (by decide +kernel)) (fun _ _ _ _ _ => pg_name (i := 2) nd rfl (Or.inl rfl)) (fun _ _ _ _ _ => pts_nil) (fun _ _ _ _ _ => (pe_tup (pa_cons (pv 2) (pa_cons (pe_cal REC (hr.mono (by omega)) (by rfl) pass0 (pa_cons (pv 0) (pa_cons (pv 2) pa_nil))) pa_nil))))) pa_nil))))
theorem all_l_wood_of (Dd : Df K mg "_law_wood_of" s_l_wood_of) (n_tuple : mg "tuple" = none) : ∀ m : Nat, Cal P w K mg base CX0 "_law_wood_of" ["_law_kids", "_law_name_here"] (m + 1) (spW K m)
  | 0 => Dd.cal (k := 0) (N := N_l_wood_of) sc_l_wood_of (fun _ _ _ _ _ _ us hl => match us, hl with | [_, _], _ => rfl) len_spW (fun f cdv A outer s H vs Q E hr h => False.elim h)
  | m + 1 => st_l_wood_of Dd n_tuple (all_l_wood_of Dd n_tuple m)
theorem ok_l_wood_of (Dd : Df K mg "_law_wood_of" s_l_wood_of) (n_tuple : mg "tuple" = none) : Cal P w K mg base CX0 "_law_wood_of" ["_law_kids", "_law_name_here"] 122 (spW K 121) := all_l_wood_of Dd n_tuple 121
abbrev N_l_draw : List Str := ["_law_deck_here", "_law_many", "_law_digit", "_law_mixed"]
theorem sc_l_draw : FnScope N_l_draw ["_law_deck_here", "_law_many"] (defScope s_l_draw) := ⟨rfl, rfl, rfl, by decide +kernel, rfl, by decide +kernel, by decide +kernel⟩
theorem ok_l_draw (Dd : Df K mg "_law_draw" s_l_draw) (n_int : mg "int" = none) : Cal P w K mg base CX0 "_law_draw" ["_law_deck_here", "_law_many"] 1 sp_l_draw := by
  refine Dd.cal (k := 0) (N := N_l_draw) sc_l_draw (fun _ _ _ _ _ _ us hl => match us, hl with | [_, _], _ => rfl) len_l_draw (fun f cdv A outer s H vs Q E hr h => ⟨t_l_draw K, PSs.nox ?_, by rw [start_n (n := 4) rfl]; exact pure_l_draw vs H Q E h⟩)
  have nd := sc_l_draw.nd
  exact (pss_cons (ps_if (pt_cmpR op_gt (pe_ix ix_list (pv 0) pe_int (fun _ _ => rfl)) pe_int (nomark _)) (pss_cons (ps_set (i := 2) nd rfl (Or.inl rfl) (pe_op op_mod (pe_callTy call_int1 (by rfl) n_int (by decide +kernel) (pa_cons (pe_ix ix_list (pv 0) pe_int (fun _ _ => rfl)) pa_nil)) (pv 1)))
      (pss_cons (ps_asg (pe_op op_fdiv (pe_ix ix_list (pv 0) pe_int (fun _ _ => rfl)) (pv 1)) (pg_sub (pv 0) pe_int set_list))
      (pss_one (ps_ret (pv 2))))) pss_nil)
      (pss_cons (ps_asg (pe_op op_add (pe_ix ix_list (pv 0) pe_int (fun _ _ => rfl)) pe_int) (pg_sub (pv 0) pe_int set_list))
      (pss_cons (ps_set (i := 3) nd rfl (Or.inl rfl) (pe_op op_mod (pe_callTy call_int1 (by rfl) n_int (by decide +kernel) (pa_cons (pe_op op_add (pe_ix ix_list (pv 0) pe_int (fun _ _ => rfl)) (pe_op op_mul pe_int (pe_ix ix_list (pv 0) pe_int (fun _ _ => rfl)))) pa_nil)) pe_int))
      (pss_cons (ps_set (i := 3) nd rfl (Or.inl rfl) (pe_op op_mod (pe_callTy call_int1 (by rfl) n_int (by decide +kernel) (pa_cons (pe_op op_mul (pv 3) (pe_op op_add (pe_op op_mod (pv 3) pe_int) pe_int)) pa_nil)) pe_int))
      (pss_one (ps_ret (pe_op op_mod (pe_op op_fdiv (pe_op op_mod (pe_callTy call_int1 (by rfl) n_int (by decide +kernel) (pa_cons (pe_op op_mul (pv 3) (pv 3)) pa_nil)) pe_int) pe_int) (pv 1))))))))
abbrev N_l_wood : List Str := ["_law_deck_here", "_law_names_here", "_law_kids", "_law_name_here", "_law_over", "_law_at", "_law_some", "_law_take"]
theorem sc_l_wood : FnScope N_l_wood ["_law_deck_here", "_law_names_here"] (defScope s_l_wood) := ⟨rfl, rfl, rfl, by decide +kernel, rfl, by decide +kernel, by decide +kernel⟩
theorem ok_l_wood (Dd : Df K mg "_law_wood" s_l_wood) (n_list : mg "list" = none) (n_len : mg "len" = none) (C_l_draw : Cal P w K mg base CX0 "_law_draw" ["_law_deck_here", "_law_many"] 1 sp_l_draw) (C_l_wood_of : Cal P w K mg base CX0 "_law_wood_of" ["_law_kids", "_law_name_here"] 122 (spW K 121)) : Cal P w K mg base CX0 "_law_wood" ["_law_deck_here", "_law_names_here"] 123 (sp_l_wood K) := by
  refine Dd.cal (k := 122) (N := N_l_wood) sc_l_wood (fun _ _ _ _ _ _ us hl => match us, hl with | [_, _], _ => rfl) len_l_wood (fun f cdv A outer s H vs Q E hr h => ⟨t_l_wood K, PSs.nox ?_, by rw [start_n (n := 8) rfl]; exact pure_l_wood vs H Q E h⟩)
  have nd := sc_l_wood.nd
  exact (pss_cons (ps_set (i := 2) nd rfl (Or.inl rfl) (pe_disp (pps_cons pe_str (pe_lst pa_nil) pps_nil) (by rfl) (by rfl) (fun z => by cases z) (by decide)))
      (pss_cons (ps_for PassesOwn.never (by rfl) (pi_list (pv 1)) (pg_name (i := 3) nd rfl (Or.inl rfl))
      (pss_cons (ps_set (i := 4) nd rfl (Or.inl rfl) (pe_ix ix_list (pe_listKeys n_list (pv 2)) (pe_cal C_l_draw (hr.mono (by omega)) (by rfl) pass0 (pa_cons (pv 0) (pa_cons (pe_callB call_lenD (by rfl) n_len (by decide +kernel) (pa_cons (pv 2) pa_nil)) pa_nil))) (fun _ _ => rfl)))
      (pss_cons (ps_set (i := 5) nd rfl (Or.inl rfl) (pe_cal C_l_draw (hr.mono (by omega)) (by rfl) pass0 (pa_cons (pv 0) (pa_cons (pe_op op_add (pe_callB call_len_seq (by rfl) n_len (by decide +kernel) (pa_cons (pe_dget (hu_of hr) (pv 2) (pv 4) (fun _ _ => rfl)) pa_nil)) pe_int) pa_nil))))
      (pss_cons (ps_set (i := 6) nd rfl (Or.inl rfl) (pe_dget (hu_of hr) (pv 2) (pv 4) (fun _ _ => rfl)))
      (pss_cons (ps_set (i := 7) nd rfl (Or.inl rfl) (pe_op op_mul (pe_op op_fdiv (pe_cal C_l_draw (hr.mono (by omega)) (by rfl) pass0 (pa_cons (pv 0) (pa_cons pe_int pa_nil))) pe_int) (pe_cal C_l_draw (hr.mono (by omega)) (by rfl) pass0 (pa_cons (pv 0) (pa_cons (pe_op op_add (pe_op op_sub (pe_callB call_len_seq (by rfl) n_len (by decide +kernel) (pa_cons (pv 6) pa_nil)) (pv 5)) pe_int) pa_nil)))))
      (pss_cons (ps_dput (hu_of hr) (pv 2) (pv 3) (pe_slice sl_list (pv 6) (po_some (pv 5)) (po_some (pe_op op_add (pv 5) (pv 7)))) rfl)
      (pss_one (ps_dput (hu_of hr) (pv 2) (pv 4) (pe_op op_cat (pe_op op_cat (pe_slice sl_list (pv 6) po_none (po_some (pv 5))) (pe_lst (pa_cons (pv 3) pa_nil))) (pe_slice sl_list (pv 6) (po_some (pe_op op_add (pv 5) (pv 7))) po_none)) rfl))))))))
      (pss_one (ps_ret (pe_cal C_l_wood_of (hr.mono (by omega)) (by rfl) pass0 (pa_cons (pv 2) (pa_cons pe_str pa_nil)))))))
abbrev N_l_tall_wood : List Str := ["_law_deck_here", "_law_names_here", "_law_tall", "_law_kids", "_law_deep", "_law_over", "_law_k", "_law_name_here", "_law_some", "_law_row_here", "_law_one"]
theorem sc_l_tall_wood : FnScope N_l_tall_wood ["_law_deck_here", "_law_names_here", "_law_tall"] (defScope s_l_tall_wood) := ⟨rfl, rfl, rfl, by decide +kernel, rfl, by decide +kernel, by decide +kernel⟩
theorem ok_l_tall_wood (Dd : Df K mg "_law_tall_wood" s_l_tall_wood) (n_range : mg "range" = none) (n_len : mg "len" = none) (C_l_draw : Cal P w K mg base CX0 "_law_draw" ["_law_deck_here", "_law_many"] 1 sp_l_draw) (C_l_wood_of : Cal P w K mg base CX0 "_law_wood_of" ["_law_kids", "_law_name_here"] 122 (spW K 121)) : Cal P w K mg base CX0 "_law_tall_wood" ["_law_deck_here", "_law_names_here", "_law_tall"] 123 (sp_l_tall_wood K) := by
  refine Dd.cal (k := 122) (N := N_l_tall_wood) sc_l_tall_wood (fun _ _ _ _ _ _ us hl => match us, hl with | [_, _, _], _ => rfl) len_l_tall_wood (fun f cdv A outer s H vs Q E hr h => ⟨t_l_tall_wood K, PSs.nox ?_, by rw [start_n (n := 11) rfl]; exact pure_l_tall_wood vs H Q E h⟩)
  have nd := sc_l_tall_wood.nd
  exact (pss_cons (ps_asg (pe_tup (pa_cons (pe_disp (pps_cons pe_str (pe_lst pa_nil) pps_nil) (by rfl) (by rfl) (fun z => by cases z) (by decide)) (pa_cons (pe_disp (pps_cons pe_str pe_int pps_nil) (by rfl) (by rfl) (fun z => by cases z) (by decide)) pa_nil))) (pg_tup rfl (pgs_cons (pg_name (i := 3) nd rfl (Or.inl rfl)) (pgs_cons (pg_name (i := 4) nd rfl (Or.inr rfl)) pgs_nil))))
      (pss_cons (ps_set (i := 5) nd rfl (Or.inl rfl) pe_str)
      (pss_cons (ps_for PassesOwn.never (by rfl) (pi_range1 (by rfl) n_range (pa_cons (pe_callB call_len_seq (by rfl) n_len (by decide +kernel) (pa_cons (pv 1) pa_nil)) pa_nil)) (pg_name (i := 6) nd rfl (Or.inl rfl))
      (pss_cons (ps_set (i := 7) nd rfl (Or.inl rfl) (pe_ix ix_list (pv 1) (pv 6) (fun _ _ => rfl)))
      (C8.pss_cut (ps_if (pt_cmpR op_ge (pv 6) (pv 2) (nomark _)) (pss_cons (ps_lock (ps_setLc (i := 8) (own := [("_law_one", 10)]) (g := gName 10) (by rfl) nd rfl rfl (sw_true rfl rfl rfl (by decide +kernel)) (pi_keysM (pv 3)) (blkOk_by (own := [("_law_one", 10)]) (N := N_l_tall_wood) (sc := defScope s_l_tall_wood) (by decide +kernel)) (fun _ _ _ _ _ => pg_name (i := 10) nd rfl (Or.inl rfl)) (fun _ _ _ _ _ => (pts_one (pt_cmpR op_lt (pe_dget (hu_of hr) (pv 4) (pv 10) (fun _ _ => rfl)) (pv 2) (nomark _)))) (fun _ _ _ _ _ => (pv 10))))
      (pss_one (ps_set (i := 5) nd rfl (Or.inl rfl) (pe_ix ix_list (pv 8) (pe_cal C_l_draw (hr.mono (by omega)) (by rfl) pass0 (pa_cons (pv 0) (pa_cons (pe_callB call_len_seq (by rfl) n_len (by decide +kernel) (pa_cons (pv 8) pa_nil)) pa_nil))) (fun _ _ => rfl))))) pss_nil)
      (pss_cons (ps_set (i := 9) nd rfl (Or.inl rfl) (pe_dget (hu_of hr) (pv 3) (pv 5) (fun _ _ => rfl)))
      (pss_cons (ps_expr (pe_bm PySem.F.plainAttrs_list PySem.F.slot_list_insert PySem.F.type_list_insert mt_insert (pv 9) (pa_cons (pe_cal C_l_draw (hr.mono (by omega)) (by rfl) pass0 (pa_cons (pv 0) (pa_cons (pe_op op_add (pe_callB call_len_seq (by rfl) n_len (by decide +kernel) (pa_cons (pv 9) pa_nil)) pe_int) pa_nil))) (pa_cons (pv 7) pa_nil))))
      (pss_cons (ps_dput (hu_of hr) (pv 3) (pv 7) (pe_lst pa_nil) rfl)
      (pss_cons (ps_dput (hu_of hr) (pv 4) (pv 7) (pe_op op_add (pe_dget (hu_of hr) (pv 4) (pv 5) (fun _ _ => rfl)) pe_int) rfl)
      (pss_one (ps_set (i := 5) nd rfl (Or.inl rfl) (pv 7))))))))))
      (pss_one (ps_ret (pe_cal C_l_wood_of (hr.mono (by omega)) (by rfl) pass0 (pa_cons (pv 3) (pa_cons pe_str pa_nil))))))))
abbrev N_l_name : List Str := ["_law_deck_here", "_law_letters", "_law_k"]
theorem sc_l_name : FnScope N_l_name ["_law_deck_here"] (defScope s_l_name) := ⟨rfl, rfl, rfl, by decide +kernel, rfl, by decide +kernel, by decide +kernel⟩
theorem ok_l_name (Dd : Df K mg "_law_name" s_l_name) (n_range : mg "range" = none) (C_l_draw : Cal P w K mg base CX0 "_law_draw" ["_law_deck_here", "_law_many"] 1 sp_l_draw) : Cal P w K mg base CX0 "_law_name" ["_law_deck_here"] 2 sp_l_name := by
  refine Dd.cal (k := 1) (N := N_l_name) sc_l_name (fun _ _ _ _ _ _ us hl => match us, hl with | [_], _ => rfl) len_l_name (fun f cdv A outer s H vs Q E hr h => ⟨t_l_name K, PSs.nox ?_, by rw [start_n (n := 3) rfl]; exact pure_l_name vs H Q E h⟩)
  have nd := sc_l_name.nd
  exact (pss_cons (ps_set (i := 1) nd rfl (Or.inr rfl) pe_str)
      (pss_one (ps_ret (pe_join pe_str (pe_lc (own := [("_law_k", 2)]) (g := gName 2) (by rfl) nd (pi_range1 (by rfl) n_range (pa_cons (pe_op op_add pe_int (pe_cal C_l_draw (hr.mono (by omega)) (by rfl) pass0 (pa_cons (pv 0) (pa_cons pe_int pa_nil)))) pa_nil)) (blkOk_by (own := [("_law_k", 2)]) (N := N_l_name) (sc := defScope s_l_name) (by decide +kernel)) (fun _ _ _ _ _ => pg_name (i := 2) nd rfl (Or.inl rfl)) (fun _ _ _ _ _ => pts_nil) (fun _ _ _ _ _ => (pe_ix ix_str (pv 1) (pe_cal C_l_draw (hr.mono (by omega)) (by rfl) pass0 (pa_cons (pv 0) (pa_cons pe_int pa_nil))) (fun _ _ => rfl))))))))
abbrev N_l_names : List Str := ["_law_deck_here", "_law_many", "_law_letters", "_law_spare", "_law_way", "_law_base", "_law_place_here", "_law_at", "_law_names_here", "_law_k", "_law_kind", "_law_name_here"]
theorem sc_l_names : FnScope N_l_names ["_law_deck_here", "_law_many"] (defScope s_l_names) := ⟨rfl, rfl, rfl, by decide +kernel, rfl, by decide +kernel, by decide +kernel⟩
theorem ok_l_names (Dd : Df K mg "_law_names" s_l_names) (n_range : mg "range" = none) (C_l_draw : Cal P w K mg base CX0 "_law_draw" ["_law_deck_here", "_law_many"] 1 sp_l_draw) (C_l_name : Cal P w K mg base CX0 "_law_name" ["_law_deck_here"] 2 sp_l_name) : Cal P w K mg base CX0 "_law_names" ["_law_deck_here", "_law_many"] 3 sp_l_names := by
  refine Dd.cal (k := 2) (N := N_l_names) sc_l_names (fun _ _ _ _ _ _ us hl => match us, hl with | [_, _], _ => rfl) len_l_names (fun f cdv A outer s H vs Q E hr h => ⟨t_l_names K, PSs.nox ?_, by rw [start_n (n := 12) rfl]; exact pure_l_names vs H Q E h⟩)
  have nd := sc_l_names.nd
  exact (pss_cons (ps_set (i := 2) nd rfl (Or.inr rfl) pe_str)
      (pss_cons (ps_setLc (i := 3) (own := [("_law_k", 9)]) (g := gName 9) (by rfl) nd rfl rfl (sw_true rfl rfl rfl (by decide +kernel)) (pi_range1 (by rfl) n_range (pa_cons pe_int pa_nil)) (blkOk_by (own := [("_law_k", 9)]) (N := N_l_names) (sc := defScope s_l_names) (by decide +kernel)) (fun _ _ _ _ _ => pg_name (i := 9) nd rfl (Or.inl rfl)) (fun _ _ _ _ _ => pts_nil) (fun _ _ _ _ _ => (pe_op op_add_str (pe_ix ix_str (pv 2) (pe_op op_fdiv (pv 9) pe_int) (fun _ _ => rfl)) (pe_ix ix_str (pv 2) (pe_op op_mod (pv 9) pe_int) (fun _ _ => rfl)))))
      (pss_cons (ps_par (i := 4) (j := 5) (by rfl) nd rfl rfl (by decide) rfl rfl (pa_cons (pe_cal C_l_draw (hr.mono (by omega)) (by rfl) pass0 (pa_cons (pv 0) (pa_cons pe_int pa_nil))) (pa_cons (pe_slice sl_str (pe_op op_rep_str (pe_cal C_l_name (hr.mono (by omega)) (by rfl) pass0 (pa_cons (pv 0) pa_nil)) pe_int) po_none (po_some pe_int)) pa_nil)) (by rfl))
      (pss_cons (ps_par3 (i := 6) (j := 7) (l := 8) (by rfl) nd rfl rfl rfl (by decide) (by decide) (by decide) rfl rfl rfl (pa_cons (pe_cal C_l_draw (hr.mono (by omega)) (by rfl) pass0 (pa_cons (pv 0) (pa_cons pe_int pa_nil))) (pa_cons pe_int (pa_cons (pe_lst pa_nil) pa_nil))) (by rfl))
      (pss_cons (ps_for PassesOwn.never (by rfl) (pi_range1 (by rfl) n_range (pa_cons (pv 1) pa_nil)) (pg_name (i := 9) nd rfl (Or.inl rfl))
      (C8.pss_cut (ps_set (i := 10) nd rfl (Or.inl rfl) (pe_ifExp (pt_cmpR op_eq (pv 4) pe_int (nomark _)) (pe_cal C_l_draw (hr.mono (by omega)) (by rfl) pass0 (pa_cons (pv 0) (pa_cons pe_int pa_nil))) (pv 4)))
      (C8.pss_cut (ps_if (pt_cmpR op_eq (pv 10) pe_int (nomark _)) (pss_one (ps_set (i := 11) nd rfl (Or.inl rfl) (pe_cal C_l_name (hr.mono (by omega)) (by rfl) pass0 (pa_cons (pv 0) pa_nil)))) (pss_one (ps_if (pt_cmpR op_eq (pv 10) pe_int (nomark _)) (pss_one (ps_set (i := 11) nd rfl (Or.inl rfl) (pe_op op_add_str (pe_op op_add_str (pe_slice sl_str (pv 5) po_none (po_some (pv 6))) (pe_ix ix_str (pv 2) (pe_cal C_l_draw (hr.mono (by omega)) (by rfl) pass0 (pa_cons (pv 0) (pa_cons pe_int pa_nil))) (fun _ _ => rfl))) (pe_slice sl_str (pv 5) (po_some (pe_op op_add (pv 6) pe_int)) po_none)))) (pss_one (ps_set (i := 11) nd rfl (Or.inl rfl) (pe_slice sl_str (pv 5) po_none (po_some (pe_op op_add pe_int (pe_cal C_l_draw (hr.mono (by omega)) (by rfl) pass0 (pa_cons (pv 0) (pa_cons pe_int pa_nil)))))))))))
      (pss_cons (ps_while PassesOwn.never (pt_cmpR op_in_seq (pv 11) (pv 8) (by rfl))
      (pss_cons (ps_set (i := 11) nd rfl (Or.inl rfl) (pe_ix ix_list (pv 3) (pv 7) (fun _ _ => rfl)))
      (pss_one (ps_set (i := 7) nd rfl (Or.inl rfl) (pe_op op_add (pv 7) pe_int)))))
      (pss_one (ps_expr (pe_bm PySem.F.plainAttrs_list PySem.F.slot_list_append PySem.F.type_list_append mt_append (pv 8) (pa_cons (pv 11) pa_nil))))))))
      (pss_one (ps_ret (pv 8))))))))
abbrev N_l_wood_and_names : List Str := ["_law_deck_here", "_law_more", "_law_tall", "_law_many", "_law_names_here"]
theorem sc_l_wood_and_names : FnScope N_l_wood_and_names ["_law_deck_here", "_law_more"] (defScope s_l_wood_and_names) := ⟨rfl, rfl, rfl, by decide +kernel, rfl, by decide +kernel, by decide +kernel⟩
theorem ok_l_wood_and_names (Dd : Df K mg "_law_wood_and_names" s_l_wood_and_names) (C_l_draw : Cal P w K mg base CX0 "_law_draw" ["_law_deck_here", "_law_many"] 1 sp_l_draw) (C_l_names : Cal P w K mg base CX0 "_law_names" ["_law_deck_here", "_law_many"] 3 sp_l_names) (C_l_tall_wood : Cal P w K mg base CX0 "_law_tall_wood" ["_law_deck_here", "_law_names_here", "_law_tall"] 123 (sp_l_tall_wood K)) (C_l_wood : Cal P w K mg base CX0 "_law_wood" ["_law_deck_here", "_law_names_here"] 123 (sp_l_wood K)) : Cal P w K mg base CX0 "_law_wood_and_names" ["_law_deck_here", "_law_more"] 124 (sp_l_wood_and_names K) := by
  refine Dd.cal (k := 123) (N := N_l_wood_and_names) sc_l_wood_and_names (fun _ _ _ _ _ _ us hl => match us, hl with | [_, _], _ => rfl) len_l_wood_and_names (fun f cdv A outer s H vs Q E hr h => ⟨t_l_wood_and_names K, PSs.nox ?_, by rw [start_n (n := 5) rfl]; exact pure_l_wood_and_names vs H Q E h⟩)
  have nd := sc_l_wood_and_names.nd
  exact (pss_cons (ps_if (pt_cmpR op_eq (pe_cal C_l_draw (hr.mono (by omega)) (by rfl) pass0 (pa_cons (pv 0) (pa_cons pe_int pa_nil))) pe_int (nomark _)) (pss_cons (ps_set (i := 2) nd rfl (Or.inl rfl) (pe_op op_add pe_int (pe_cal C_l_draw (hr.mono (by omega)) (by rfl) pass0 (pa_cons (pv 0) (pa_cons pe_int pa_nil)))))
      (pss_cons (ps_set (i := 3) nd rfl (Or.inl rfl) (pe_op op_add (pv 2) (pe_cal C_l_draw (hr.mono (by omega)) (by rfl) pass0 (pa_cons (pv 0) (pa_cons (pe_op op_sub pe_int (pv 2)) pa_nil)))))
      (pss_cons (ps_set (i := 4) nd rfl (Or.inl rfl) (pe_cal C_l_names (hr.mono (by omega)) (by rfl) pass0 (pa_cons (pv 0) (pa_cons (pe_op op_add (pv 3) (pv 1)) pa_nil))))
      (pss_one (ps_ret (pe_lst (pa_cons (pe_cal C_l_tall_wood (hr.mono (by omega)) (by rfl) pass0 (pa_cons (pv 0) (pa_cons (pe_slice sl_list (pv 4) po_none (po_some (pv 3))) (pa_cons (pv 2) pa_nil)))) (pa_cons (pe_slice sl_list (pv 4) (po_some (pv 3)) po_none) pa_nil)))))))) pss_nil)
      (pss_cons (ps_set (i := 3) nd rfl (Or.inl rfl) (pe_cal C_l_draw (hr.mono (by omega)) (by rfl) pass0 (pa_cons (pv 0) (pa_cons pe_int pa_nil))))
      (pss_cons (ps_set (i := 4) nd rfl (Or.inl rfl) (pe_cal C_l_names (hr.mono (by omega)) (by rfl) pass0 (pa_cons (pv 0) (pa_cons (pe_op op_add (pv 3) (pv 1)) pa_nil))))
      (pss_one (ps_ret (pe_lst (pa_cons (pe_cal C_l_wood (hr.mono (by omega)) (by rfl) pass0 (pa_cons (pv 0) (pa_cons (pe_slice sl_list (pv 4) po_none (po_some (pv 3))) pa_nil))) (pa_cons (pe_slice sl_list (pv 4) (po_some (pv 3)) po_none) pa_nil))))))))
abbrev N_l_some_wood : List Str := ["_law_deck_here"]
theorem sc_l_some_wood : FnScope N_l_some_wood ["_law_deck_here"] (defScope s_l_some_wood) := ⟨rfl, rfl, rfl, by decide +kernel, rfl, by decide +kernel, by decide +kernel⟩
theorem ok_l_some_wood (Dd : Df K mg "_law_some_wood" s_l_some_wood) (C_l_wood_and_names : Cal P w K mg base CX0 "_law_wood_and_names" ["_law_deck_here", "_law_more"] 124 (sp_l_wood_and_names K)) : Cal P w K mg base CX0 "_law_some_wood" ["_law_deck_here"] 125 (sp_l_some_wood K) := by
  refine Dd.cal (k := 124) (N := N_l_some_wood) sc_l_some_wood (fun _ _ _ _ _ _ us hl => match us, hl with | [_], _ => rfl) len_l_some_wood (fun f cdv A outer s H vs Q E hr h => ⟨t_l_some_wood K, PSs.nox ?_, by rw [start_n (n := 1) rfl]; exact pure_l_some_wood vs H Q E h⟩)
  have nd := sc_l_some_wood.nd
  exact (pss_one (ps_ret (pe_ix ix_list (pe_cal C_l_wood_and_names (hr.mono (by omega)) (by rfl) pass0 (pa_cons (pv 0) (pa_cons pe_int pa_nil))) pe_int (fun _ _ => rfl))))
abbrev N_l_row : List Str := ["_law_wood_here", "_law_found", "_law_name_here", "_law_inside"]
theorem sc_l_row : FnScope N_l_row ["_law_wood_here"] (defScope s_l_row) := ⟨rfl, rfl, rfl, by decide +kernel, rfl, by decide +kernel, by decide +kernel⟩
theorem st_l_row (Dd : Df K mg "_law_row" s_l_row)  {m : Nat} (REC : Cal P w K mg base CX0 "_law_row" ["_law_wood_here"] (m + 1) (spR K m)) : Cal P w K mg base CX0 "_law_row" ["_law_wood_here"] (m + 1 + 1) (spR K (m + 1)) := by
  refine Dd.cal (k := m + 1) (N := N_l_row) sc_l_row (fun _ _ _ _ _ _ us hl => match us, hl with | [_], _ => rfl) len_spR (fun f cdv A outer s H vs Q E hr h => ⟨t_l_row K (spR K m), PSs.nox ?_, by rw [start_n (n := 4) rfl]; exact pure_l_row vs H Q E h⟩)
  have nd := sc_l_row.nd
  exact (pss_cons (ps_set (i := 1) nd rfl (Or.inl rfl) (pe_tup pa_nil))
      (pss_cons (ps_for PassesOwn.never (by rfl) (pi_tup (pv 0)) (pg_tup rfl (pgs_cons (pg_name (i := 2) nd rfl (Or.inl rfl)) (pgs_cons (pg_name (i := 3) nd rfl (Or.inl rfl)) pgs_nil)))
      (pss_one (ps_set (i := 1) nd rfl (Or.inl rfl) (pe_op op_catA (pe_op op_catA (pe_op op_catA (pv 1) (pe_tup (pa_cons (pe_op op_add_str pe_str (pv 2)) pa_nil))) (pe_cal REC (hr.mono (by omega)) (by rfl) pass0 (pa_cons (pv 3) pa_nil))) (pe_tup (pa_cons (pe_op op_add_str pe_str (pv 2)) pa_nil))))))
      (pss_one (ps_ret (pv 1)))))
theorem all_l_row (Dd : Df K mg "_law_row" s_l_row)  : ∀ m : Nat, Cal P w K mg base CX0 "_law_row" ["_law_wood_here"] (m + 1) (spR K m)
  | 0 => Dd.cal (k := 0) (N := N_l_row) sc_l_row (fun _ _ _ _ _ _ us hl => match us, hl with | [_], _ => rfl) len_spR (fun f cdv A outer s H vs Q E hr h => False.elim h)
  | m + 1 => st_l_row Dd  (all_l_row Dd  m)
theorem ok_l_row (Dd : Df K mg "_law_row" s_l_row)  : Cal P w K mg base CX0 "_law_row" ["_law_wood_here"] 122 (spR K 121) := all_l_row Dd  121
abbrev N_l_from_row : List Str := ["_law_row_here", "_law_still", "_law_end", "_law_tree", "_law_name_here", "_law_trees"]
theorem sc_l_from_row : FnScope N_l_from_row ["_law_row_here"] (defScope s_l_from_row) := ⟨rfl, rfl, rfl, by decide +kernel, rfl, by decide +kernel, by decide +kernel⟩
theorem ok_l_from_row (Dd : Df K mg "_law_from_row" s_l_from_row)  : Cal P w K mg base CX0 "_law_from_row" ["_law_row_here"] 1 (sp_l_from_row K) := by
  refine Dd.cal (k := 0) (N := N_l_from_row) sc_l_from_row (fun _ _ _ _ _ _ us hl => match us, hl with | [_], _ => rfl) len_l_from_row (fun f cdv A outer s H vs Q E hr h => ⟨t_l_from_row K, PSs.nox ?_, by rw [start_n (n := 6) rfl]; exact pure_l_from_row vs H Q E h⟩)
  have nd := sc_l_from_row.nd
  exact (pss_cons (ps_set (i := 1) nd rfl (Or.inl rfl) (pe_lst (pa_cons (pe_tup (pa_cons pe_str (pa_cons (pe_tup pa_nil) pa_nil))) pa_nil)))
      (pss_cons (ps_for PassesOwn.never (by rfl) (pi_tup (pv 0)) (pg_name (i := 2) nd rfl (Or.inl rfl))
      (pss_one (ps_if (pt_cmpR op_eq (pe_ix ix_str (pv 2) pe_int (fun _ _ => rfl)) pe_str (nomark _)) (pss_one (ps_expr (pe_bm PySem.F.plainAttrs_list PySem.F.slot_list_append PySem.F.type_list_append mt_append (pv 1) (pa_cons (pe_tup (pa_cons (pe_slice sl_str (pv 2) (po_some pe_int) po_none) (pa_cons (pe_tup pa_nil) pa_nil))) pa_nil)))) (pss_cons (ps_set (i := 3) nd rfl (Or.inl rfl) (pe_bm0 PySem.F.plainAttrs_list PySem.F.slot_list_pop PySem.F.type_list_pop mt_pop (pv 1)))
      (pss_cons (ps_asg (pe_bm0 PySem.F.plainAttrs_list PySem.F.slot_list_pop PySem.F.type_list_pop mt_pop (pv 1)) (pg_tup rfl (pgs_cons (pg_name (i := 4) nd rfl (Or.inl rfl)) (pgs_cons (pg_name (i := 5) nd rfl (Or.inl rfl)) pgs_nil))))
      (pss_one (ps_expr (pe_bm PySem.F.plainAttrs_list PySem.F.slot_list_append PySem.F.type_list_append mt_append (pv 1) (pa_cons (pe_tup (pa_cons (pv 4) (pa_cons (pe_op op_catA (pv 5) (pe_tup (pa_cons (pv 3) pa_nil))) pa_nil))) pa_nil)))))))))
      (pss_one (ps_ret (pe_ix ix_tup (pe_ix ix_list (pv 1) pe_int (fun _ _ => rfl)) pe_int (fun _ _ => rfl))))))
abbrev N_l_pick : List Str := ["_law_deck_here", "_law_items"]
theorem sc_l_pick : FnScope N_l_pick ["_law_deck_here", "_law_items"] (defScope s_l_pick) := ⟨rfl, rfl, rfl, by decide +kernel, rfl, by decide +kernel, by decide +kernel⟩
theorem ok_l_pick (Dd : Df K mg "_law_pick" s_l_pick) (n_len : mg "len" = none) (C_l_draw : Cal P w K mg base CX0 "_law_draw" ["_law_deck_here", "_law_many"] 1 sp_l_draw) : Cal P w K mg base CX0 "_law_pick" ["_law_deck_here", "_law_items"] 2 (sp_l_pick K) := by
  refine Dd.cal (k := 1) (N := N_l_pick) sc_l_pick (fun _ _ _ _ _ _ us hl => match us, hl with | [_, _], _ => rfl) len_l_pick (fun f cdv A outer s H vs Q E hr h => ⟨t_l_pick K, PSs.nox ?_, by rw [start_n (n := 2) rfl]; exact pure_l_pick vs H Q E h⟩)
  have nd := sc_l_pick.nd
  exact (pss_one (ps_ret (pe_ix ix_list (pv 1) (pe_cal C_l_draw (hr.mono (by omega)) (by rfl) pass0 (pa_cons (pv 0) (pa_cons (pe_callB call_len_seq (by rfl) n_len (by decide +kernel) (pa_cons (pv 1) pa_nil)) pa_nil))) (fun _ _ => rfl))))
abbrev N_l_odd : List Str := ["_law_deck_here", "_law_some"]
theorem sc_l_odd : FnScope N_l_odd ["_law_deck_here"] (defScope s_l_odd) := ⟨rfl, rfl, rfl, by decide +kernel, rfl, by decide +kernel, by decide +kernel⟩
theorem ok_l_odd (Dd : Df K mg "_law_odd" s_l_odd) (C_l_pick : Cal P w K mg base CX0 "_law_pick" ["_law_deck_here", "_law_items"] 2 (sp_l_pick K)) : Cal P w K mg base CX0 "_law_odd" ["_law_deck_here"] 3 (sp_l_odd K) := by
  refine Dd.cal (k := 2) (N := N_l_odd) sc_l_odd (fun _ _ _ _ _ _ us hl => match us, hl with | [_], _ => rfl) len_l_odd (fun f cdv A outer s H vs Q E hr h => ⟨t_l_odd K, PSs.nox ?_, by rw [start_n (n := 2) rfl]; exact pure_l_odd vs H Q E h⟩)
  have nd := sc_l_odd.nd
  exact (pss_cons (ps_set (i := 1) nd rfl (Or.inl rfl) (pe_lst (pa_cons pe_non (pa_cons pe_bl (pa_cons pe_bl (pa_cons pe_int (pa_cons pe_int (pa_cons (pe_op op_sub pe_int pe_int) (pa_cons (pe_op op_pow pe_int pe_int) (pa_cons pe_str (pa_cons pe_str (pa_cons pe_str (pa_cons pe_str (pa_cons pe_str (pa_cons pe_str (pa_cons pe_str (pa_cons pe_str pa_nil)))))))))))))))))
      (pss_cons (ps_set (i := 1) nd rfl (Or.inl rfl) (pe_op op_cat (pv 1) (pe_lst (pa_cons pe_str (pa_cons pe_str (pa_cons pe_str (pa_cons pe_str (pa_cons (pe_lst (pa_cons pe_str (pa_cons (pe_tup pa_nil) pa_nil))) (pa_cons (pe_disp (pps_cons pe_str pe_int (pps_cons pe_str pe_int pps_nil)) (by rfl) (by rfl) (fun z => by cases z) (by decide)) pa_nil)))))))))
      (pss_cons (ps_set (i := 1) nd rfl (Or.inl rfl) (pe_op op_cat (pv 1) (pe_lst (pa_cons (pe_tup (pa_cons pe_str pa_nil)) (pa_cons (pe_tup (pa_cons pe_str (pa_cons (pe_tup pa_nil) pa_nil))) (pa_cons (pe_lst (pa_cons pe_str pa_nil)) (pa_cons (pe_lst pa_nil) (pa_cons pe_dnewK (pa_cons (pe_disp (pps_cons pe_str pe_int pps_nil) (by rfl) (by rfl) (fun z => by cases z) (by decide)) (pa_cons (pe_tup pa_nil) (pa_cons (pe_tup (pa_cons (pe_tup pa_nil) (pa_cons (pe_tup pa_nil) pa_nil))) (pa_cons (pe_tup (pa_cons (pe_tup (pa_cons pe_str (pa_cons (pe_tup pa_nil) pa_nil))) pa_nil)) (pa_cons pe_str pa_nil)))))))))))))
      (pss_one (ps_ret (pe_cal C_l_pick (hr.mono (by omega)) (by rfl) pass0 (pa_cons (pv 0) (pa_cons (pv 1) pa_nil))))))))
abbrev N_l_is_name : List Str := ["_law_value", "_law_sign"]
theorem sc_l_is_name : FnScope N_l_is_name ["_law_value"] (defScope s_l_is_name) := ⟨rfl, rfl, rfl, by decide +kernel, rfl, by decide +kernel, by decide +kernel⟩
theorem ok_l_is_name (Dd : Df K mg "_law_is_name" s_l_is_name) (n_isinstance : mg "isinstance" = none) (n_str : mg "str" = none) (n_len : mg "len" = none) : Cal P w K mg base CX0 "_law_is_name" ["_law_value"] 1 (sp_l_is_name K) := by
  refine Dd.cal (k := 0) (N := N_l_is_name) sc_l_is_name (fun _ _ _ _ _ _ us hl => match us, hl with | [_], _ => rfl) len_l_is_name (fun f cdv A outer s H vs Q E hr h => ⟨t_l_is_name K, PSs.nox ?_, by rw [start_n (n := 2) rfl]; exact pure_l_is_name vs H Q E h⟩)
  have nd := sc_l_is_name.nd
  exact (pss_cons (ps_if (PW.pt (pw_or (pt_not (pt_val (pe_isiB n_isinstance n_str (pv 0)))) (pw_or (pt_cmpR op_eq (pv 0) pe_str (nomark _)) (pw_or1 (pt_cmpR op_gt (pe_callB call_len_str (by rfl) n_len (by decide +kernel) (pa_cons (pv 0) pa_nil)) pe_int (nomark _)))))) (pss_one (ps_ret pe_bl)) pss_nil)
      (pss_one (ps_ret (pe_cmpR (op_eqE hr) (pe_lc (own := [("_law_sign", 1)]) (g := gName 1) (by rfl) nd (pi_str (pv 0)) (blkOk_by (own := [("_law_sign", 1)]) (N := N_l_is_name) (sc := defScope s_l_is_name) (by decide +kernel)) (fun _ _ _ _ _ => pg_name (i := 1) nd rfl (Or.inl rfl)) (fun _ _ _ _ _ => (pts_one (pt_cmpR op_notIn_sign (pv 1) pe_str (by rfl)))) (fun _ _ _ _ _ => (pv 1))) (pe_lst pa_nil) (nomark _)))))
abbrev N_l_place : List Str := ["_law_row_here", "_law_seen", "_law_still", "_law_k", "_law_item"]
theorem sc_l_place : FnScope N_l_place ["_law_row_here"] (defScope s_l_place) := ⟨rfl, rfl, rfl, by decide +kernel, rfl, by decide +kernel, by decide +kernel⟩
theorem ok_l_place (Dd : Df K mg "_law_place" s_l_place) (n_range : mg "range" = none) (n_len : mg "len" = none) (n_isinstance : mg "isinstance" = none) (n_str : mg "str" = none) (C_l_is_name : Cal P w K mg base CX0 "_law_is_name" ["_law_value"] 1 (sp_l_is_name K)) : Cal P w K mg base CX0 "_law_place" ["_law_row_here"] 2 (sp_l_place K) := by
  refine Dd.cal (k := 1) (N := N_l_place) sc_l_place (fun _ _ _ _ _ _ us hl => match us, hl with | [_], _ => rfl) len_l_place (fun f cdv A outer s H vs Q E hr h => ⟨t_l_place K, PSs.nox ?_, by rw [start_n (n := 5) rfl]; exact pure_l_place vs H Q E h⟩)
  have nd := sc_l_place.nd
  exact (pss_cons (ps_par (i := 1) (j := 2) (by rfl) nd rfl rfl (by decide) rfl rfl (pa_cons (pe_lst pa_nil) (pa_cons (pe_lst pa_nil) pa_nil)) (by rfl))
      (pss_cons (ps_for PassesOwn.never (by rfl) (pi_range1 (by rfl) n_range (pa_cons (pe_callB call_len_seq (by rfl) n_len (by decide +kernel) (pa_cons (pv 0) pa_nil)) pa_nil)) (pg_name (i := 3) nd rfl (Or.inl rfl))
      (pss_cons (ps_set (i := 4) nd rfl (Or.inl rfl) (pe_ix ix_tup (pv 0) (pv 3) (fun _ _ => rfl)))
      (pss_cons (ps_if (PW.pt (pw_or (pt_not (pt_val (pe_isiB n_isinstance n_str (pv 4)))) (pw_or (pt_not (pt_val (pe_cal C_l_is_name (hr.mono (by omega)) (by rfl) pass0 (pa_cons (pe_slice sl_str (pv 4) (po_some pe_int) po_none) pa_nil)))) (pw_or1 (pt_cmpR op_notIn_sign (pe_ix ix_str (pv 4) pe_int (fun _ _ => rfl)) pe_str (by rfl)))))) (pss_one (ps_ret (pv 3))) pss_nil)
      (pss_one (ps_if (pt_cmpR op_eq (pe_ix ix_str (pv 4) pe_int (fun _ _ => rfl)) pe_str (nomark _)) (pss_cons (ps_if (PW.pt (pw_or (pt_cmpR op_in_seq (pv 4) (pv 1) (by rfl)) (pw_or1 (pt_cmpR op_eq (pe_callB call_len_seq (by rfl) n_len (by decide +kernel) (pa_cons (pv 2) pa_nil)) pe_int (nomark _))))) (pss_one (ps_ret (pv 3))) pss_nil)
      (pss_cons (ps_expr (pe_bm PySem.F.plainAttrs_list PySem.F.slot_list_append PySem.F.type_list_append mt_append (pv 1) (pa_cons (pv 4) pa_nil)))
      (pss_one (ps_expr (pe_bm PySem.F.plainAttrs_list PySem.F.slot_list_append PySem.F.type_list_append mt_append (pv 2) (pa_cons (pe_slice sl_str (pv 4) (po_some pe_int) po_none) pa_nil)))))) (pss_cons (ps_if (pt_cmpR (op_neB hr) (pe_slice sl_list (pv 2) (po_some (pe_un un_neg pe_int)) po_none) (pe_lst (pa_cons (pe_slice sl_str (pv 4) (po_some pe_int) po_none) pa_nil)) (nomark _)) (pss_one (ps_ret (pv 3))) pss_nil)
      (pss_one (ps_expr (pe_bm0 PySem.F.plainAttrs_list PySem.F.slot_list_pop PySem.F.type_list_pop mt_pop (pv 2))))))))))
      (pss_one (ps_ret (pe_ifExp (pt_cmpR (op_eqE hr) (pv 2) (pe_lst pa_nil) (nomark _)) pe_non (pe_callB call_len_seq (by rfl) n_len (by decide +kernel) (pa_cons (pv 0) pa_nil)))))))
abbrev N_l_bad_name : List Str := ["_law_deck_here"]
theorem sc_l_bad_name : FnScope N_l_bad_name ["_law_deck_here"] (defScope s_l_bad_name) := ⟨rfl, rfl, rfl, by decide +kernel, rfl, by decide +kernel, by decide +kernel⟩
theorem ok_l_bad_name (Dd : Df K mg "_law_bad_name" s_l_bad_name) (C_l_pick : Cal P w K mg base CX0 "_law_pick" ["_law_deck_here", "_law_items"] 2 (sp_l_pick K)) : Cal P w K mg base CX0 "_law_bad_name" ["_law_deck_here"] 3 (sp_l_bad_name K) := by
  refine Dd.cal (k := 2) (N := N_l_bad_name) sc_l_bad_name (fun _ _ _ _ _ _ us hl => match us, hl with | [_], _ => rfl) len_l_bad_name (fun f cdv A outer s H vs Q E hr h => ⟨t_l_bad_name K, PSs.nox ?_, by rw [start_n (n := 1) rfl]; exact pure_l_bad_name vs H Q E h⟩)
  have nd := sc_l_bad_name.nd
  exact (pss_one (ps_ret (pe_cal C_l_pick (hr.mono (by omega)) (by rfl) pass0 (pa_cons (pv 0) (pa_cons (pe_lst (pa_cons pe_str (pa_cons pe_str (pa_cons pe_str (pa_cons pe_str (pa_cons pe_str (pa_cons pe_str (pa_cons pe_str (pa_cons pe_str (pa_cons pe_str (pa_cons pe_str (pa_cons pe_str (pa_cons pe_str pa_nil))))))))))))) pa_nil)))))
abbrev N_l_spoilt : List Str := ["_law_deck_here", "_law_row_here", "_law_names_here", "_law_way", "_law_at", "_law_kind", "_law_item", "_law_bad", "_law_there", "_law_here", "_law_one", "_law_other", "_law_between"]
theorem sc_l_spoilt : FnScope N_l_spoilt ["_law_deck_here", "_law_row_here", "_law_names_here"] (defScope s_l_spoilt) := ⟨rfl, rfl, rfl, by decide +kernel, rfl, by decide +kernel, by decide +kernel⟩
theorem ok_l_spoilt (Dd : Df K mg "_law_spoilt" s_l_spoilt) (n_len : mg "len" = none) (n_min : mg "min" = none) (n_max : mg "max" = none) (C_l_draw : Cal P w K mg base CX0 "_law_draw" ["_law_deck_here", "_law_many"] 1 sp_l_draw) (C_l_pick : Cal P w K mg base CX0 "_law_pick" ["_law_deck_here", "_law_items"] 2 (sp_l_pick K)) (C_l_odd : Cal P w K mg base CX0 "_law_odd" ["_law_deck_here"] 3 (sp_l_odd K)) (C_l_bad_name : Cal P w K mg base CX0 "_law_bad_name" ["_law_deck_here"] 3 (sp_l_bad_name K)) : Cal P w K mg base CX0 "_law_spoilt" ["_law_deck_here", "_law_row_here", "_law_names_here"] 4 (sp_l_spoilt K) := by
  refine Dd.cal (k := 3) (N := N_l_spoilt) sc_l_spoilt (fun _ _ _ _ _ _ us hl => match us, hl with | [_, _, _], _ => rfl) len_l_spoilt (fun f cdv A outer s H vs Q E hr h => ⟨t_l_spoilt K, PSs.nox ?_, by rw [start_n (n := 13) rfl]; exact pure_l_spoilt vs H Q E h⟩)
  have nd := sc_l_spoilt.nd
  exact (pss_cons (ps_par3 (i := 3) (j := 4) (l := 5) (by rfl) nd rfl rfl rfl (by decide) (by decide) (by decide) rfl rfl rfl (pa_cons (pe_cal C_l_draw (hr.mono (by omega)) (by rfl) pass0 (pa_cons (pv 0) (pa_cons pe_int pa_nil))) (pa_cons (pe_cal C_l_draw (hr.mono (by omega)) (by rfl) pass0 (pa_cons (pv 0) (pa_cons (pe_op op_add (pe_callB call_len_seq (by rfl) n_len (by decide +kernel) (pa_cons (pv 1) pa_nil)) pe_int) pa_nil))) (pa_cons (pe_cal C_l_draw (hr.mono (by omega)) (by rfl) pass0 (pa_cons (pv 0) (pa_cons pe_int pa_nil))) pa_nil))) (by rfl))
      (pss_cons (ps_set (i := 6) nd rfl (Or.inl rfl) (pe_op op_add_str (pe_cal C_l_pick (hr.mono (by omega)) (by rfl) pass0 (pa_cons (pv 0) (pa_cons (pe_lst (pa_cons pe_str (pa_cons pe_str pa_nil))) pa_nil))) (pe_cal C_l_pick (hr.mono (by omega)) (by rfl) pass0 (pa_cons (pv 0) (pa_cons (pe_op op_cat (pv 2) (pe_lst (pa_cons pe_str pa_nil))) pa_nil)))))
      (C8.pss_cut (ps_if (pt_cmpR op_eq (pv 5) pe_int (nomark _)) (pss_one (ps_set (i := 6) nd rfl (Or.inl rfl) (pe_cal C_l_odd (hr.mono (by omega)) (by rfl) pass0 (pa_cons (pv 0) pa_nil)))) pss_nil)
      (C8.pss_cut (ps_if (pt_cmpR op_eq (pv 5) pe_int (nomark _)) (pss_one (ps_set (i := 6) nd rfl (Or.inl rfl) (pe_op op_add_str (pe_cal C_l_pick (hr.mono (by omega)) (by rfl) pass0 (pa_cons (pv 0) (pa_cons (pe_lst (pa_cons pe_str (pa_cons pe_str pa_nil))) pa_nil))) (pe_cal C_l_bad_name (hr.mono (by omega)) (by rfl) pass0 (pa_cons (pv 0) pa_nil))))) pss_nil)
      (pss_cons (ps_if (pt_cmpR op_eq (pv 3) pe_int (nomark _)) (pss_cons (ps_set (i := 7) nd rfl (Or.inl rfl) (pe_cal C_l_bad_name (hr.mono (by omega)) (by rfl) pass0 (pa_cons (pv 0) pa_nil)))
      (pss_cons (ps_set (i := 8) nd rfl (Or.inl rfl) (pe_op op_add (pv 4) (pe_cal C_l_draw (hr.mono (by omega)) (by rfl) pass0 (pa_cons (pv 0) (pa_cons (pe_op op_add (pe_op op_sub (pe_callB call_len_seq (by rfl) n_len (by decide +kernel) (pa_cons (pv 1) pa_nil)) (pv 4)) pe_int) pa_nil)))))
      (pss_one (ps_ret (pe_op op_catA (pe_op op_catA (pe_op op_catA (pe_op op_catA (pe_slice sl_tupA (pv 1) po_none (po_some (pv 4))) (pe_tup (pa_cons (pe_op op_add_str pe_str (pv 7)) pa_nil))) (pe_slice sl_tupA (pv 1) (po_some (pv 4)) (po_some (pv 8)))) (pe_tup (pa_cons (pe_op op_add_str pe_str (pv 7)) pa_nil))) (pe_slice sl_tupA (pv 1) (po_some (pv 8)) po_none)))))) pss_nil)
      (pss_cons (ps_if (pt_cmpR op_eq (pv 3) pe_int (nomark _)) (pss_one (ps_ret (pe_op op_catA (pe_op op_catA (pe_slice sl_tupA (pv 1) po_none (po_some (pv 4))) (pe_tup (pa_cons (pv 6) pa_nil))) (pe_slice sl_tupA (pv 1) (po_some (pv 4)) po_none)))) pss_nil)
      (pss_cons (ps_if (pt_cmpR op_eq (pv 3) pe_int (nomark _)) (pss_one (ps_ret (pe_op op_catA (pe_op op_catA (pe_slice sl_tupA (pv 1) po_none (po_some (pv 4))) (pe_tup (pa_cons (pv 6) pa_nil))) (pe_slice sl_tupA (pv 1) (po_some (pe_op op_add (pv 4) pe_int)) po_none)))) pss_nil)
      (pss_cons (ps_if (pt_cmpR op_eq (pv 3) pe_int (nomark _)) (pss_one (ps_ret (pe_op op_catA (pe_slice sl_tupA (pv 1) po_none (po_some (pv 4))) (pe_slice sl_tupA (pv 1) (po_some (pe_op op_add (pv 4) pe_int)) po_none)))) pss_nil)
      (pss_cons (ps_set (i := 8) nd rfl (Or.inl rfl) (pe_cal C_l_draw (hr.mono (by omega)) (by rfl) pass0 (pa_cons (pv 0) (pa_cons (pe_op op_add (pe_callB call_len_seq (by rfl) n_len (by decide +kernel) (pa_cons (pv 1) pa_nil)) pe_int) pa_nil))))
      (pss_cons (ps_par (i := 9) (j := 8) (by rfl) nd rfl rfl (by decide) rfl rfl (pa_cons (pe_callB (call_min2 rfl) (by rfl) n_min (by decide +kernel) (pa_cons (pv 4) (pa_cons (pv 8) pa_nil))) (pa_cons (pe_callB (call_max2 rfl) (by rfl) n_max (by decide +kernel) (pa_cons (pv 4) (pa_cons (pv 8) pa_nil))) pa_nil)) (by rfl))
      (pss_cons (ps_par (i := 10) (j := 11) (by rfl) nd rfl rfl (by decide) rfl rfl (pa_cons (pe_slice sl_tupA (pv 1) (po_some (pv 9)) (po_some (pe_op op_add (pv 9) pe_int))) (pa_cons (pe_slice sl_tupA (pv 1) (po_some (pv 8)) (po_some (pe_op op_add (pv 8) pe_int))) pa_nil)) (by rfl))
      (pss_cons (ps_set (i := 12) nd rfl (Or.inl rfl) (pe_slice sl_tupA (pv 1) (po_some (pe_op op_add (pv 9) pe_int)) (po_some (pv 8))))
      (pss_one (ps_ret (pe_op op_catA (pe_op op_catA (pe_op op_catA (pe_op op_catA (pe_slice sl_tupA (pv 1) po_none (po_some (pv 9))) (pv 11)) (pv 12)) (pv 10)) (pe_slice sl_tupA (pv 1) (po_some (pe_op op_add (pv 8) pe_int)) po_none))))))))))))))))
abbrev N_law : List Str := ["_law_script", "_law_deck_here", "_law_many", "_law_way", "_law_names_here", "_law_row_here", "_law_k", "_law_value", "_law_due", "_law_found", "e", "_law_end"]
theorem sc_law : FnScope N_law ["_law_script"] (defScope s_law) := ⟨rfl, rfl, rfl, by decide +kernel, rfl, by decide +kernel, by decide +kernel⟩
theorem ok_law {fa : Addr} {fd : FuncData} (F : FunD K "law" "law" (defArgs s_law) (defBody s_law) (defScope s_law) [] [] fa fd) {A_TwigError A_BadRow A_NoName : Addr} (g_TwigError : mg "TwigError" = some (.ref A_TwigError)) (g_BadRow : mg "BadRow" = some (.ref A_BadRow)) (g_NoName : mg "NoName" = some (.ref A_NoName)) (c_BadRow : Cls1 P w K mg base "BadRow" "place" A_BadRow 1) (cf : Cf02 K A_TwigError A_BadRow A_NoName) (n_len : mg "len" = none) (n_range : mg "range" = none) (n_list : mg "list" = none) (n_isinstance : mg "isinstance" = none) (n_repr : mg "repr" = none) (C_l_deck : Cal P w K mg base CX0 "_law_deck" ["_law_script"] 1 (sp_l_deck K)) (C_l_draw : Cal P w K mg base CX0 "_law_draw" ["_law_deck_here", "_law_many"] 1 sp_l_draw) (C_l_names : Cal P w K mg base CX0 "_law_names" ["_law_deck_here", "_law_many"] 3 sp_l_names) (C_l_row : Cal P w K mg base CX0 "_law_row" ["_law_wood_here"] 122 (spR K 121)) (C_l_tall_wood : Cal P w K mg base CX0 "_law_tall_wood" ["_law_deck_here", "_law_names_here", "_law_tall"] 123 (sp_l_tall_wood K)) (C_l_some_wood : Cal P w K mg base CX0 "_law_some_wood" ["_law_deck_here"] 125 (sp_l_some_wood K)) (C_l_spoilt : Cal P w K mg base CX0 "_law_spoilt" ["_law_deck_here", "_law_row_here", "_law_names_here"] 4 (sp_l_spoilt K)) (C_l_pick : Cal P w K mg base CX0 "_law_pick" ["_law_deck_here", "_law_items"] 2 (sp_l_pick K)) (C_l_place : Cal P w K mg base CX0 "_law_place" ["_law_row_here"] 2 (sp_l_place K)) (C_wood_of : Cal P w K mg base (L2.CX P w) "wood_of" ["value"] 4 (sp_wood_ofG K A_BadRow)) (C_l_from_row : Cal P w K mg base CX0 "_law_from_row" ["_law_row_here"] 1 (sp_l_from_row K)) : FnG P w K mg base CX0 126 fa fd ["_law_script"] (sp_law K) := by
  refine fnG_of F (k := 125) sc_law len_law (fun cdv A outer s H vs Q E hr hq h => ⟨t_law02 K A_TwigError A_BadRow A_NoName, PSs.nox ?_, by rw [start_n (n := 12) rfl]; exact pure_law02 cf vs H Q E h⟩)
  have nd := sc_law.nd
  exact (pss_cons (ps_set (i := 1) nd rfl (Or.inl rfl) (pe_cal C_l_deck (hr.mono (by omega)) (by rfl) pass0 (pa_cons (pv 0) pa_nil)))
      (pss_cons (ps_par (i := 2) (j := 3) (by rfl) nd rfl rfl (by decide) rfl rfl (pa_cons (pe_cal C_l_draw (hr.mono (by omega)) (by rfl) pass0 (pa_cons (pv 1) (pa_cons pe_int pa_nil))) (pa_cons (pe_cal C_l_draw (hr.mono (by omega)) (by rfl) pass0 (pa_cons (pv 1) (pa_cons pe_int pa_nil))) pa_nil)) (by rfl))
      (C8.pss_cut (ps_if (pt_cmpR op_eq (pv 3) pe_int (nomark _)) (pss_cons (ps_set (i := 4) nd rfl (Or.inl rfl) (pe_cal C_l_names (hr.mono (by omega)) (by rfl) pass0 (pa_cons (pv 1) (pa_cons (pe_op op_add pe_int (pe_cal C_l_draw (hr.mono (by omega)) (by rfl) pass0 (pa_cons (pv 1) (pa_cons pe_int pa_nil)))) pa_nil))))
      (pss_one (ps_set (i := 5) nd rfl (Or.inl rfl) (pe_cal C_l_row (hr.mono (by omega)) (by rfl) pass0 (pa_cons (pe_cal C_l_tall_wood (hr.mono (by omega)) (by rfl) pass0 (pa_cons (pv 1) (pa_cons (pv 4) (pa_cons (pe_callB call_len_seq (by rfl) n_len (by decide +kernel) (pa_cons (pv 4) pa_nil)) pa_nil)))) pa_nil))))) (pss_one (ps_set (i := 5) nd rfl (Or.inl rfl) (pe_cal C_l_row (hr.mono (by omega)) (by rfl) pass0 (pa_cons (pe_cal C_l_some_wood (hr.mono (by omega)) (by rfl) pass0 (pa_cons (pv 1) pa_nil)) pa_nil)))))
      (pss_cons (ps_setLc (i := 4) (own := [("_law_end", 11)]) (g := gName 11) (by rfl) nd rfl rfl (sw_true rfl rfl rfl (by decide +kernel)) (pi_tup (pv 5)) (blkOk_by (own := [("_law_end", 11)]) (N := N_law) (sc := defScope s_law) (by decide +kernel)) (fun _ _ _ _ _ => pg_name (i := 11) nd rfl (Or.inl rfl)) (fun _ _ _ _ _ => (pts_one (pt_cmpR op_eq (pe_ix ix_str (pv 11) pe_int (fun _ _ => rfl)) pe_str (nomark _)))) (fun _ _ _ _ _ => (pe_slice sl_str (pv 11) (po_some pe_int) po_none)))
      (pss_cons (ps_for PassesOwn.never (by rfl) (pi_range1 (by rfl) n_range (pa_cons (pv 2) pa_nil)) (pg_name (i := 6) nd rfl (Or.inl rfl))
      (pss_one (ps_set (i := 5) nd rfl (Or.inl rfl) (pe_cal C_l_spoilt (hr.mono (by omega)) (by rfl) pass0 (pa_cons (pv 1) (pa_cons (pv 5) (pa_cons (pv 4) pa_nil)))))))
      (pss_cons (ps_set (i := 7) nd rfl (Or.inl rfl) (pv 5))
      (C8.pss_cut (ps_if (pt_cmpR op_eq (pv 3) pe_int (nomark _)) (pss_one (ps_set (i := 7) nd rfl (Or.inl rfl) (pe_cal C_l_pick (hr.mono (by omega)) (by rfl) pass0 (pa_cons (pv 1) (pa_cons (pe_lst (pa_cons (pe_callTy call_list_of (by rfl) n_list (by decide +kernel) (pa_cons (pv 5) pa_nil)) (pa_cons pe_non (pa_cons pe_str (pa_cons pe_int (pa_cons pe_dnewK (pa_cons pe_bl pa_nil))))))) pa_nil))))) pss_nil)
      (pss_cons (ps_set (i := 8) nd rfl (Or.inl rfl) (pe_cal C_l_place (hr.mono (by omega)) (by rfl) pass0 (pa_cons (pv 5) pa_nil)))
      (pss_cons (ps_try_as (i := 10) rfl rfl nd rfl rfl ⟨by rfl, by decide, .inl g_BadRow⟩ takes_none5 (fun W pn xe tkW po => (pss_one (ps_set (i := 9) nd rfl (Or.inl rfl) (pe_calS C_wood_of (hr.mono (by omega)) (by rfl) (fun σ => passAt tkW σ) (pa_cons (pv 7) pa_nil))))) (fun a oe cls d pn hz hf => (pss_cons (ps_if (PW.pt (pw_or (pt_val (pe_callB (call_isD c_BadRow.exc hz hf) (by rfl) n_isinstance (by decide +kernel) (pa_cons (pv 10) (pa_cons (pe_glob (by rfl) g_NoName rfl) pa_nil)))) (pw_or1 (pt_not (pt_val (pe_callB (call_isD c_BadRow.exc hz hf) (by rfl) n_isinstance (by decide +kernel) (pa_cons (pv 10) (pa_cons (pe_glob (by rfl) g_TwigError rfl) pa_nil)))))))) (pss_one (ps_ret pe_bl)) pss_nil)
      (pss_one (ps_ret (pe_cmpR op_eq (pe_callB call_reprN (by rfl) n_repr (by decide +kernel) (pa_cons (pe_xf c_BadRow.xf c_BadRow.no hz hf (pv 10)) pa_nil)) (pe_callB call_reprN (by rfl) n_repr (by decide +kernel) (pa_cons (pe_ifExp (pt_cmpR op_eq (pv 3) pe_int (nomark _)) pe_non (pv 8)) pa_nil)) (nomark _)))))))
      (pss_one (ps_ret (pe_and (pe_cmpR op_ne (pv 3) pe_int (nomark _)) (pe_and (pe_cmp (pc_isN (pv 8))) (pe_one (pe_cmpR (op_eqL hr (by decide)) (pv 9) (pe_cal C_l_from_row (hr.mono (by omega)) (by rfl) pass0 (pa_cons (pv 5) pa_nil)) (nomark _))))))))))))))))
end

/-! the head -/
def d_is_name : He.DefD := ⟨("is_name", none), "is_name", "is_name", defArgs s_is_name, defBody s_is_name, defScope s_is_name, [], []⟩
def d_u_is_end : He.DefD := ⟨("_is_end", none), "_is_end", "_is_end", defArgs s_u_is_end, defBody s_u_is_end, defScope s_u_is_end, [], []⟩
def d_u_bad_place : He.DefD := ⟨("_bad_place", none), "_bad_place", "_bad_place", defArgs s_u_bad_place, defBody s_u_bad_place, defScope s_u_bad_place, [], []⟩
def d_unchecked_wood : He.DefD := ⟨("unchecked_wood", none), "unchecked_wood", "unchecked_wood", defArgs s_unchecked_wood, defBody s_unchecked_wood, defScope s_unchecked_wood, [], []⟩
def d_wood_of : He.DefD := ⟨("wood_of", none), "wood_of", "wood_of", defArgs s_wood_of, defBody s_wood_of, defScope s_wood_of, [], []⟩
def d_l_deck : He.DefD := ⟨("_law_deck", none), "_law_deck", "_law_deck", defArgs s_l_deck, defBody s_l_deck, defScope s_l_deck, [], []⟩
def d_l_wood_of : He.DefD := ⟨("_law_wood_of", none), "_law_wood_of", "_law_wood_of", defArgs s_l_wood_of, defBody s_l_wood_of, defScope s_l_wood_of, [], []⟩
def d_l_draw : He.DefD := ⟨("_law_draw", none), "_law_draw", "_law_draw", defArgs s_l_draw, defBody s_l_draw, defScope s_l_draw, [], []⟩
def d_l_wood : He.DefD := ⟨("_law_wood", none), "_law_wood", "_law_wood", defArgs s_l_wood, defBody s_l_wood, defScope s_l_wood, [], []⟩
def d_l_tall_wood : He.DefD := ⟨("_law_tall_wood", none), "_law_tall_wood", "_law_tall_wood", defArgs s_l_tall_wood, defBody s_l_tall_wood, defScope s_l_tall_wood, [], []⟩
def d_l_name : He.DefD := ⟨("_law_name", none), "_law_name", "_law_name", defArgs s_l_name, defBody s_l_name, defScope s_l_name, [], []⟩
def d_l_names : He.DefD := ⟨("_law_names", none), "_law_names", "_law_names", defArgs s_l_names, defBody s_l_names, defScope s_l_names, [], []⟩
def d_l_wood_and_names : He.DefD := ⟨("_law_wood_and_names", none), "_law_wood_and_names", "_law_wood_and_names", defArgs s_l_wood_and_names, defBody s_l_wood_and_names, defScope s_l_wood_and_names, [], []⟩
def d_l_some_wood : He.DefD := ⟨("_law_some_wood", none), "_law_some_wood", "_law_some_wood", defArgs s_l_some_wood, defBody s_l_some_wood, defScope s_l_some_wood, [], []⟩
def d_l_row : He.DefD := ⟨("_law_row", none), "_law_row", "_law_row", defArgs s_l_row, defBody s_l_row, defScope s_l_row, [], []⟩
def d_l_from_row : He.DefD := ⟨("_law_from_row", none), "_law_from_row", "_law_from_row", defArgs s_l_from_row, defBody s_l_from_row, defScope s_l_from_row, [], []⟩
def d_l_pick : He.DefD := ⟨("_law_pick", none), "_law_pick", "_law_pick", defArgs s_l_pick, defBody s_l_pick, defScope s_l_pick, [], []⟩
def d_l_odd : He.DefD := ⟨("_law_odd", none), "_law_odd", "_law_odd", defArgs s_l_odd, defBody s_l_odd, defScope s_l_odd, [], []⟩
def d_l_is_name : He.DefD := ⟨("_law_is_name", none), "_law_is_name", "_law_is_name", defArgs s_l_is_name, defBody s_l_is_name, defScope s_l_is_name, [], []⟩
def d_l_place : He.DefD := ⟨("_law_place", none), "_law_place", "_law_place", defArgs s_l_place, defBody s_l_place, defScope s_l_place, [], []⟩
def d_l_bad_name : He.DefD := ⟨("_law_bad_name", none), "_law_bad_name", "_law_bad_name", defArgs s_l_bad_name, defBody s_l_bad_name, defScope s_l_bad_name, [], []⟩
def d_l_spoilt : He.DefD := ⟨("_law_spoilt", none), "_law_spoilt", "_law_spoilt", defArgs s_l_spoilt, defBody s_l_spoilt, defScope s_l_spoilt, [], []⟩
def d_law : He.DefD := ⟨("law", none), "law", "law", defArgs s_law, defBody s_law, defScope s_law, [], []⟩
def d_BadRow_init : He.DefD := ⟨("BadRow", some "__init__"), "__init__", "BadRow.__init__", defArgs s_BadRow_init, defBody s_BadRow_init, defScope s_BadRow_init, [], []⟩
def fn : List He.DefD := [d_is_name, d_u_is_end, d_u_bad_place, d_unchecked_wood, d_wood_of, d_l_deck, d_l_wood_of, d_l_draw, d_l_wood, d_l_tall_wood, d_l_name, d_l_names, d_l_wood_and_names, d_l_some_wood, d_l_row, d_l_from_row, d_l_pick, d_l_odd, d_l_is_name, d_l_place, d_l_bad_name, d_l_spoilt, d_law, d_BadRow_init]
def ck : List Chk := [.one "BadRow" "place", .exm "BadRow" "BadRow" true, .kit "BadRow" "NoName" false, .kit "BadRow" "TwigError" true]
def fa : List He.Fa := [.glo "is_name", .glo "_is_end", .glo "_bad_place", .glo "unchecked_wood", .glo "wood_of", .glo "_law_deck", .glo "_law_wood_of", .glo "_law_draw", .glo "_law_wood", .glo "_law_tall_wood", .glo "_law_name", .glo "_law_names", .glo "_law_wood_and_names", .glo "_law_some_wood", .glo "_law_row", .glo "_law_from_row", .glo "_law_pick", .glo "_law_odd", .glo "_law_is_name", .glo "_law_place", .glo "_law_bad_name", .glo "_law_spoilt", .glo "law", .free "isinstance", .free "str", .free "len", .free "enumerate", .free "tuple", .free "abs", .free "int", .free "list", .free "range", .free "min", .free "max", .free "repr", .int "_LONGEST" 8, .int "_MOST_AROUND" 100, .glo "TwigError", .glo "BadRow", .glo "NoName"]
abbrev R : PySem.W.OpenRow := PySem.W.OpenLaw.row PySem.Challenge.rw_twigscripts_k02_rows_that_are_none
abbrev hk : PySem.W.Hook := He.hookX 4 fa fn [] [] (chkB ck)
def ob (s : PySem.W.SharedT) : He.AlX := He.obsX 4 fa fn [] [] (chkB ck) (HandSHeadRun.getT s)
theorem ob_eq (s : PySem.W.SharedT) : ob s = hk.obs s.abs := He.obsX_eq (HandSHeadRun.getT_eq s)
abbrev looseN : List Str := ["TwigError", "BadRow", "NoName", "_LONGEST", "is_name", "_MOST_AROUND", "wood_of", "_bad_place", "_is_end", "unchecked_wood", "_law_deck", "_law_wood_of", "_law_draw", "_law_wood", "_law_tall_wood", "_law_name", "_law_names", "_law_wood_and_names", "_law_some_wood", "_law_row", "_law_from_row", "_law_pick", "_law_odd", "_law_is_name", "_law_place", "_law_bad_name", "_law_spoilt"]
theorem run (w : World) : HandSHeadRun.RunEq R (PySem.W.view R.prog [31]) hk ob 4000 looseN w := by
  intro os
  kernel_rfl
theorem facts {P : Program} {w : World} {K : PySem.W.Frag} {h h0 : Heap} {mg : Str → Option Value} (X : K.In h) (G : h.Ns mainGlobals mg) (cx : He.SaysX fa fn [] [] (chkB ck) w h0 K) (base : Heap) {la : Addr} {ld : FuncData}
    (F : FunD K "law" "law" (defArgs s_law) (defBody s_law) (defScope s_law) [] [] la ld) : FnG P w K mg base CX0 126 la ld ["_law_script"] (sp_law K) := by
  have c := cx.t.d
  have D_is_name : Df K mg "is_name" s_is_name := by
    obtain ⟨fd, F⟩ := c.def_ 0 (d := d_is_name) rfl
    exact ⟨_, fd, He.glo_ok X G (c.fact 0 (f := .glo "is_name") rfl), F⟩
  have D_u_is_end : Df K mg "_is_end" s_u_is_end := by
    obtain ⟨fd, F⟩ := c.def_ 1 (d := d_u_is_end) rfl
    exact ⟨_, fd, He.glo_ok X G (c.fact 1 (f := .glo "_is_end") rfl), F⟩
  have D_u_bad_place : Df K mg "_bad_place" s_u_bad_place := by
    obtain ⟨fd, F⟩ := c.def_ 2 (d := d_u_bad_place) rfl
    exact ⟨_, fd, He.glo_ok X G (c.fact 2 (f := .glo "_bad_place") rfl), F⟩
  have D_unchecked_wood : Df K mg "unchecked_wood" s_unchecked_wood := by
    obtain ⟨fd, F⟩ := c.def_ 3 (d := d_unchecked_wood) rfl
    exact ⟨_, fd, He.glo_ok X G (c.fact 3 (f := .glo "unchecked_wood") rfl), F⟩
  have D_wood_of : Df K mg "wood_of" s_wood_of := by
    obtain ⟨fd, F⟩ := c.def_ 4 (d := d_wood_of) rfl
    exact ⟨_, fd, He.glo_ok X G (c.fact 4 (f := .glo "wood_of") rfl), F⟩
  have D_l_deck : Df K mg "_law_deck" s_l_deck := by
    obtain ⟨fd, F⟩ := c.def_ 5 (d := d_l_deck) rfl
    exact ⟨_, fd, He.glo_ok X G (c.fact 5 (f := .glo "_law_deck") rfl), F⟩
  have D_l_wood_of : Df K mg "_law_wood_of" s_l_wood_of := by
    obtain ⟨fd, F⟩ := c.def_ 6 (d := d_l_wood_of) rfl
    exact ⟨_, fd, He.glo_ok X G (c.fact 6 (f := .glo "_law_wood_of") rfl), F⟩
  have D_l_draw : Df K mg "_law_draw" s_l_draw := by
    obtain ⟨fd, F⟩ := c.def_ 7 (d := d_l_draw) rfl
    exact ⟨_, fd, He.glo_ok X G (c.fact 7 (f := .glo "_law_draw") rfl), F⟩
  have D_l_wood : Df K mg "_law_wood" s_l_wood := by
    obtain ⟨fd, F⟩ := c.def_ 8 (d := d_l_wood) rfl
    exact ⟨_, fd, He.glo_ok X G (c.fact 8 (f := .glo "_law_wood") rfl), F⟩
  have D_l_tall_wood : Df K mg "_law_tall_wood" s_l_tall_wood := by
    obtain ⟨fd, F⟩ := c.def_ 9 (d := d_l_tall_wood) rfl
    exact ⟨_, fd, He.glo_ok X G (c.fact 9 (f := .glo "_law_tall_wood") rfl), F⟩
  have D_l_name : Df K mg "_law_name" s_l_name := by
    obtain ⟨fd, F⟩ := c.def_ 10 (d := d_l_name) rfl
    exact ⟨_, fd, He.glo_ok X G (c.fact 10 (f := .glo "_law_name") rfl), F⟩
  have D_l_names : Df K mg "_law_names" s_l_names := by
    obtain ⟨fd, F⟩ := c.def_ 11 (d := d_l_names) rfl
    exact ⟨_, fd, He.glo_ok X G (c.fact 11 (f := .glo "_law_names") rfl), F⟩
  have D_l_wood_and_names : Df K mg "_law_wood_and_names" s_l_wood_and_names := by
    obtain ⟨fd, F⟩ := c.def_ 12 (d := d_l_wood_and_names) rfl
    exact ⟨_, fd, He.glo_ok X G (c.fact 12 (f := .glo "_law_wood_and_names") rfl), F⟩
  have D_l_some_wood : Df K mg "_law_some_wood" s_l_some_wood := by
    obtain ⟨fd, F⟩ := c.def_ 13 (d := d_l_some_wood) rfl
    exact ⟨_, fd, He.glo_ok X G (c.fact 13 (f := .glo "_law_some_wood") rfl), F⟩
  have D_l_row : Df K mg "_law_row" s_l_row := by
    obtain ⟨fd, F⟩ := c.def_ 14 (d := d_l_row) rfl
    exact ⟨_, fd, He.glo_ok X G (c.fact 14 (f := .glo "_law_row") rfl), F⟩
  have D_l_from_row : Df K mg "_law_from_row" s_l_from_row := by
    obtain ⟨fd, F⟩ := c.def_ 15 (d := d_l_from_row) rfl
    exact ⟨_, fd, He.glo_ok X G (c.fact 15 (f := .glo "_law_from_row") rfl), F⟩
  have D_l_pick : Df K mg "_law_pick" s_l_pick := by
    obtain ⟨fd, F⟩ := c.def_ 16 (d := d_l_pick) rfl
    exact ⟨_, fd, He.glo_ok X G (c.fact 16 (f := .glo "_law_pick") rfl), F⟩
  have D_l_odd : Df K mg "_law_odd" s_l_odd := by
    obtain ⟨fd, F⟩ := c.def_ 17 (d := d_l_odd) rfl
    exact ⟨_, fd, He.glo_ok X G (c.fact 17 (f := .glo "_law_odd") rfl), F⟩
  have D_l_is_name : Df K mg "_law_is_name" s_l_is_name := by
    obtain ⟨fd, F⟩ := c.def_ 18 (d := d_l_is_name) rfl
    exact ⟨_, fd, He.glo_ok X G (c.fact 18 (f := .glo "_law_is_name") rfl), F⟩
  have D_l_place : Df K mg "_law_place" s_l_place := by
    obtain ⟨fd, F⟩ := c.def_ 19 (d := d_l_place) rfl
    exact ⟨_, fd, He.glo_ok X G (c.fact 19 (f := .glo "_law_place") rfl), F⟩
  have D_l_bad_name : Df K mg "_law_bad_name" s_l_bad_name := by
    obtain ⟨fd, F⟩ := c.def_ 20 (d := d_l_bad_name) rfl
    exact ⟨_, fd, He.glo_ok X G (c.fact 20 (f := .glo "_law_bad_name") rfl), F⟩
  have D_l_spoilt : Df K mg "_law_spoilt" s_l_spoilt := by
    obtain ⟨fd, F⟩ := c.def_ 21 (d := d_l_spoilt) rfl
    exact ⟨_, fd, He.glo_ok X G (c.fact 21 (f := .glo "_law_spoilt") rfl), F⟩
  have n_isinstance := He.free_ok X G (c.fact 23 (f := .free "isinstance") rfl)
  have n_str := He.free_ok X G (c.fact 24 (f := .free "str") rfl)
  have n_len := He.free_ok X G (c.fact 25 (f := .free "len") rfl)
  have n_enumerate := He.free_ok X G (c.fact 26 (f := .free "enumerate") rfl)
  have n_tuple := He.free_ok X G (c.fact 27 (f := .free "tuple") rfl)
  have n_abs := He.free_ok X G (c.fact 28 (f := .free "abs") rfl)
  have n_int := He.free_ok X G (c.fact 29 (f := .free "int") rfl)
  have n_list := He.free_ok X G (c.fact 30 (f := .free "list") rfl)
  have n_range := He.free_ok X G (c.fact 31 (f := .free "range") rfl)
  have n_min := He.free_ok X G (c.fact 32 (f := .free "min") rfl)
  have n_max := He.free_ok X G (c.fact 33 (f := .free "max") rfl)
  have n_repr := He.free_ok X G (c.fact 34 (f := .free "repr") rfl)
  obtain ⟨t__LONGEST, g__LONGEST⟩ := He.int_ok X G (c.fact 35 (f := .int "_LONGEST" 8) rfl)
  obtain ⟨t__MOST_AROUND, g__MOST_AROUND⟩ := He.int_ok X G (c.fact 36 (f := .int "_MOST_AROUND" 100) rfl)
  have g_TwigError := He.glo_ok X G (c.fact 37 (f := .glo "TwigError") rfl)
  have g_BadRow := He.glo_ok X G (c.fact 38 (f := .glo "BadRow") rfl)
  have g_NoName := He.glo_ok X G (c.fact 39 (f := .glo "NoName") rfl)
  obtain ⟨fd_BadRow, F_BadRow⟩ := c.def_ 23 (d := d_BadRow_init) rfl
  have c_BadRow : Cls1 P w K mg base "BadRow" "place" (He.ga K "BadRow") 1 := cls1_of (chk_at cx.more 0 rfl) g_BadRow (ok_BadRow_init F_BadRow) (F_BadRow.bindsN (fun _ _ _ _ _ _ us hl => match us, hl with | [_, _], _ => rfl))
  have cf : Cf02 K (He.ga K "TwigError") (He.ga K "BadRow") (He.ga K "NoName") := ⟨of_decide_eq_true (chk_at cx.more 1 (c := .exm "BadRow" "BadRow" true) rfl), of_decide_eq_true (chk_at cx.more 2 (c := .kit "BadRow" "NoName" false) rfl), of_decide_eq_true (chk_at cx.more 3 (c := .kit "BadRow" "TwigError" true) rfl)⟩
  have C_is_name := ok_is_name (P := P) (w := w) (base := base) D_is_name n_isinstance n_str n_len g__LONGEST
  have C_u_is_end := ok_u_is_end (P := P) (w := w) (base := base) D_u_is_end n_isinstance n_str C_is_name
  have C_u_bad_place := ok_u_bad_place (P := P) (w := w) (base := base) D_u_bad_place n_enumerate n_len g__MOST_AROUND C_u_is_end
  have C_unchecked_wood := ok_unchecked_wood (P := P) (w := w) (base := base) D_unchecked_wood n_len n_tuple
  have C_wood_of := ok_wood_of (P := P) (w := w) (base := base) D_wood_of g_TwigError g_BadRow g_NoName c_BadRow cf n_isinstance n_tuple C_u_bad_place C_unchecked_wood
  have C_l_deck := ok_l_deck (P := P) (w := w) (base := base) D_l_deck n_len n_abs n_int
  have C_l_wood_of := ok_l_wood_of (P := P) (w := w) (base := base) D_l_wood_of n_tuple
  have C_l_draw := ok_l_draw (P := P) (w := w) (base := base) D_l_draw n_int
  have C_l_wood := ok_l_wood (P := P) (w := w) (base := base) D_l_wood n_list n_len C_l_draw C_l_wood_of
  have C_l_tall_wood := ok_l_tall_wood (P := P) (w := w) (base := base) D_l_tall_wood n_range n_len C_l_draw C_l_wood_of
  have C_l_name := ok_l_name (P := P) (w := w) (base := base) D_l_name n_range C_l_draw
  have C_l_names := ok_l_names (P := P) (w := w) (base := base) D_l_names n_range C_l_draw C_l_name
  have C_l_wood_and_names := ok_l_wood_and_names (P := P) (w := w) (base := base) D_l_wood_and_names C_l_draw C_l_names C_l_tall_wood C_l_wood
  have C_l_some_wood := ok_l_some_wood (P := P) (w := w) (base := base) D_l_some_wood C_l_wood_and_names
  have C_l_row := ok_l_row (P := P) (w := w) (base := base) D_l_row 
  have C_l_from_row := ok_l_from_row (P := P) (w := w) (base := base) D_l_from_row 
  have C_l_pick := ok_l_pick (P := P) (w := w) (base := base) D_l_pick n_len C_l_draw
  have C_l_odd := ok_l_odd (P := P) (w := w) (base := base) D_l_odd C_l_pick
  have C_l_is_name := ok_l_is_name (P := P) (w := w) (base := base) D_l_is_name n_isinstance n_str n_len
  have C_l_place := ok_l_place (P := P) (w := w) (base := base) D_l_place n_range n_len n_isinstance n_str C_l_is_name
  have C_l_bad_name := ok_l_bad_name (P := P) (w := w) (base := base) D_l_bad_name C_l_pick
  have C_l_spoilt := ok_l_spoilt (P := P) (w := w) (base := base) D_l_spoilt n_len n_min n_max C_l_draw C_l_pick C_l_odd C_l_bad_name
  exact ok_law F g_TwigError g_BadRow g_NoName c_BadRow cf n_len n_range n_list n_isinstance n_repr C_l_deck C_l_draw C_l_names C_l_row C_l_tall_wood C_l_some_wood C_l_spoilt C_l_pick C_l_place C_wood_of C_l_from_row
end TwLaw
open PySem PySem.W PySem.Calls PyProof.Rows
theorem PySem.Challenge.cw_twigscripts_k02_rows_that_are_none_holds : PySem.Challenge.rw_twigscripts_k02_rows_that_are_none.Holds := by
  w_on; o_law
  refine HandSHeadRun.head_any (r := OpenLaw.row PySem.Challenge.rw_twigscripts_k02_rows_that_are_none) (q := view (OpenLaw.row PySem.Challenge.rw_twigscripts_k02_rows_that_are_none).prog [31]) (H := TwLaw.hk) (ob := TwLaw.ob) (M := 4000) (loose := TwLaw.looseN) (d := HandSHeadRun.topDef (OpenLaw.row PySem.Challenge.rw_twigscripts_k02_rows_that_are_none).prog 31) (kwd := []) TwLaw.ob_eq
    (by kernel_rfl) (fun s => by kernel_rfl) TwLaw.run (by kernel_rfl) (by kernel_rfl) (by kernel_rfl) (by rfl) (by first | assumption | decide +kernel) (by decide +kernel) ⟨rfl, rfl, rfl, rfl, rfl, by decide +kernel⟩ ?hw ?hc
  case hw => w_witness2
  case hc =>
    refine Tw.walk_ofG (l := PySem.Challenge.rw_twigscripts_k02_rows_that_are_none) (n := 63) (k := 126) (x := "_law_script") rfl (by decide) (by kernel_rfl) ⟨rfl, by decide, by decide⟩ ?F
    intro w mg fa h Y G hmg0
    obtain ⟨K, KX, cx⟩ := Y
    have c := cx.t.d
    have hmg : mg ("law" : PySem.Str) = some (.ref fa) := by
      have e : (HandSHeadRun.topDef (OpenLaw.row PySem.Challenge.rw_twigscripts_k02_rows_that_are_none).prog 31).name = ("law" : PySem.Str) := by kernel_rfl
      rw [← e]
      exact hmg0
    obtain ⟨fd, F⟩ := c.def_ 22 (d := TwLaw.d_law) rfl
    have e := hmg.symm.trans (He.glo_ok KX G (c.fact 22 (f := .glo "law") rfl))
    cases e
    have b := L2.FunD.bindsA (ps := ["_law_script"]) F fun _ _ _ _ _ _ us hl => match us, hl with | [_], _ => rfl
    refine ⟨K, fd, Tw.sp_law K, KX, fun s v => b s [v] rfl, fun H a ns hl hS => ⟨a, ns, rfl, hl, hS, fun _ => rfl⟩, fun base hK hG => ?_⟩
    exact TwLaw.facts (P := (PySem.Challenge.rw_twigscripts_k02_rows_that_are_none).prog) (w := w) hK hG cx base F
