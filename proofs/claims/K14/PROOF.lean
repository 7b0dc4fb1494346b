import PyProof.Rows.All
import Wide.All
import OpenK.AllK
import Wide.FinOn
import HandS.ForMost
import HandS.ForExc
import HandS.ExcOwn
import HandS.ExcCtx
import HandS.Defaults
import HandS.HeadHook1
import HandS.HeadHook2
import HandS.HeadHook3
import HandS.HeadHook4
import HandS.IsInst
import KE.KOpsOwn
import KE.KxMul
import KE.KIsAll
import KE.KTryMore
import HandS.ExcInit
import HandS.ExcIs
import HandS.HotCalls
import HandS.ExcField
import KE.KExcIs
import HandS.Iter
import PyProof.FactsAll.int_1
import PyProof.FactsAll.int_3
import PyProof.FactsAll.int_5
import PyProof.FactsAll.bool_1
import PyProof.FactsAll.bool_2
import PyProof.FactsAll.bool_3
import PyProof.FactsAll.dict_2
import HandS.Property
import KE.KStateDown
import HandS.Head0
import HandS.Head1
import HandS.Head2
import HandS.HeadEnd
import PyProof.StrBlock2
import HandS.Wide
import HandS.Codes
import HandS.Walk
import HandS.WideBits
import HandS.Text
import HandS.Records
import HandS.Comp
import HandS.Dict
import HandS.DictComp
import KE.KDictKeyed
import KE.KeyNested
import KE.KDictSum
import KE.KDictCopyH
import HandS.RevTup
import PyProof.MeetsIn
import PyProof.Rows.StrBool
import KE.DataEq
import HandS.SortKw
import KE.KMinKey
import KE.DatumOrd
import KE.GoesMore
import KE.GoesEnum
import KE.GoesZip
import KE.KItemsList
import HandS.ListItems
import HandS.Conv
import HandS.OwnEq
import HandS.Deep
import PySem.Challenge.RW_townlines_k14_places
set_option Elab.async false
set_option linter.all false
set_option maxRecDepth 100000
set_option maxHeartbeats 8000000
set_option autoImplicit false
set_option maxErrors 4
/-! Static methods of own classes: what the head reads of them, C.m(..). -/
namespace Tl
open PySem PySem.Spec PyProof.Rows L2
/-- C.m is a staticmethod at p over the def at f -/
structure Stat (K : PySem.W.Frag) (C : Addr) (m : Str) (f : Addr) : Prop where
  ga : PySem.W.specialIn K (.ref C) "__getattribute__" = some (some (.builtin "type.__getattribute__"))
  ty : PySem.W.typeIn K (.ref C) = some (.type "type")
  rd : PySem.W.readsIn K C (.type "type") = true
  fd : ∃ (p : Addr) (rest : List Value), PySem.W.findCls K (.ref C) (.type "type") m = some (.get (.builtin "staticmethod.__get__") (.ref p) .none (.ref C)) ∧ PySem.W.recIn K p "staticmethod" = some (.ref f :: rest)
  kp : PySem.W.keepIn K (.ref f) = true
def statP : Option PySem.W.CFound → Option Addr
  | some (.get (.builtin g) (.ref p) .none _) => if g = "staticmethod.__get__" then some p else none
  | _ => none
/-- where the staticmethod, its def stand -/
def pAd (K : PySem.W.Frag) (C : Addr) (m : Str) : Addr := (statP (PySem.W.findCls K (.ref C) (.type "type") m)).getD 0
def recF : Option (List Value) → Option Addr
  | some (.ref f :: _) => some f
  | _ => none
def sAd (K : PySem.W.Frag) (C : Addr) (m : Str) : Addr := (recF (PySem.W.recIn K (pAd K C m) "staticmethod")).getD 0
def foundB (C : Addr) : Option PySem.W.CFound → Bool
  | some (.get (.builtin g) (.ref _) .none (.ref D)) => decide (g = "staticmethod.__get__") && decide (D = C)
  | _ => false
def recB : Option (List Value) → Bool
  | some (.ref _ :: _) => true
  | _ => false
def statB (K : PySem.W.Frag) (C : Addr) (m : Str) : Bool := He.eqO (PySem.W.specialIn K (.ref C) "__getattribute__") (some (some (.builtin "type.__getattribute__"))) && (decide (PySem.W.typeIn K (.ref C) = some (.type "type")) && (PySem.W.readsIn K C (.type "type") &&
  (foundB C (PySem.W.findCls K (.ref C) (.type "type") m) && (recB (PySem.W.recIn K (pAd K C m) "staticmethod") && PySem.W.keepIn K (.ref (sAd K C m))))))
theorem foundB_ok {C : Addr} {r : Option PySem.W.CFound} (h : foundB C r = true) : r = some (.get (.builtin "staticmethod.__get__") (.ref ((statP r).getD 0)) .none (.ref C)) := by
  unfold foundB at h
  split at h
  · rename_i g p D
    obtain ⟨h1, h2⟩ := He.ba h
    have e1 := of_decide_eq_true h1
    have e2 := of_decide_eq_true h2
    rw [e1, e2]
    show _ = some (PySem.W.CFound.get _ (.ref ((if ("staticmethod.__get__" : String) = "staticmethod.__get__" then some p else none).getD 0)) _ _)
    rw [if_pos rfl]
    rfl
  · cases h
theorem recB_ok {r : Option (List Value)} (h : recB r = true) : ∃ rest, r = some (.ref ((recF r).getD 0) :: rest) := by
  unfold recB at h
  split at h
  · exact ⟨_, rfl⟩
  · cases h
theorem statB_ok {K : PySem.W.Frag} {C : Addr} {m : Str} (h : statB K C m = true) : Stat K C m (sAd K C m) := by
  obtain ⟨a1, h⟩ := He.ba h
  obtain ⟨a2, h⟩ := He.ba h
  obtain ⟨a3, h⟩ := He.ba h
  obtain ⟨a4, h⟩ := He.ba h
  obtain ⟨a5, a6⟩ := He.ba h
  obtain ⟨rest, e⟩ := recB_ok a5
  exact ⟨He.eqO_ok a1, of_decide_eq_true a2, a3, ⟨pAd K C m, rest, foundB_ok a4, e⟩, a6⟩
/-! ### the Hook: as the library's by one more list of defs, looked for by an address of one's own -/
structure StD where
  cls : Str
  meth : Str
  d : He.DefD
def StD.ad (K : PySem.W.Frag) (x : StD) : Addr := sAd K (He.ga K x.cls) x.meth
def stW (K : PySem.W.Frag) (x : StD) : He.FnW := match K.lookup (x.ad K) with
  | some ⟨_, _, .func fd, _⟩ => some (fd.name, fd.qualname, fd.params, fd.body, fd.scope, fd.globals, fd.closure, fd.builtins)
  | _ => none
def StD.ok (K : PySem.W.Frag) (x : StD) : Bool := statB K (He.ga K x.cls) x.meth && (match K.lookup (x.ad K) with
  | some ⟨_, _, .func fd, _⟩ => PySem.W.codeIn K fd.code x.d.qual && (He.dflB K fd.defaults (x.d.dvs K) && He.kwdB K fd.kwdefaults (x.d.kws K))
  | _ => false)
theorem StD.funD {K : PySem.W.Frag} {x : StD} (e : stW K x = x.d.val) (c : x.ok K = true) : Stat K (He.ga K x.cls) x.meth (x.ad K) ∧ ∃ fd, FunD K x.d.name x.d.qual x.d.params x.d.body x.d.scope (x.d.dvs K) (x.d.kws K) (x.ad K) fd := by
  obtain ⟨st, c⟩ := He.ba c
  have S := statB_ok st
  refine ⟨S, ?_⟩
  unfold stW at e
  cases look : K.lookup (x.ad K) with
  | none =>
    rw [look] at c
    cases c
  | some ob =>
    obtain ⟨oc, od, dt, sl⟩ := ob
    rw [look] at c e
    cases dt with
    | func fd =>
      obtain ⟨f1, f2, f3, f4, f5, f6, f7, f8, f9, f10, f11, f12, f13, f14, f15⟩ := fd
      have same : (some (f1, f2, f3, f4, f5, f6, f7, f15) : He.FnW) = some (x.d.name, x.d.qual, x.d.params, .stmts x.d.body, x.d.scope, mainGlobals, [], builtinsNs) := e
      simp only [Option.some.injEq, Prod.mk.injEq] at same
      obtain ⟨i1, i2, i3, i4, i5, i6, i7, i8⟩ := same
      subst i1 i2 i3 i4 i5 i6 i7 i8
      have all : (PySem.W.codeIn K f13 x.d.qual && (He.dflB K f8 (x.d.dvs K) && He.kwdB K f9 (x.d.kws K))) = true := c
      obtain ⟨j1, all⟩ := He.ba all
      obtain ⟨j2, j3⟩ := He.ba all
      exact ⟨_, ⟨oc, od, f8, f9, f10, f11, f12, f13, f14, sl, rfl, look, j1, He.dflB_ok j2, He.kwdB_ok j3⟩, S.kp⟩
    | _ => cases c
abbrev AlS : Type := (He.AlD × Bool) × List He.FnW
def obsS (n : Nat) (fa : List He.Fa) (fn : List He.DefD) (sd : List StD) (ex : PySem.W.Frag → Bool) (g : Addr → Option Obj) : AlS :=
  ((He.obsD fa fn (He.frT g (cStatics :: He.asD g n)), ex (He.frT g (cStatics :: He.asD g n)) && sd.all fun x => x.ok (He.frT g (cStatics :: He.asD g n))), sd.map fun x => stW (He.frT g (cStatics :: He.asD g n)) x)
def valS (fn : List He.DefD) (sd : List StD) : AlS := ((He.valD fn, true), sd.map fun x => x.d.val)
structure SaysS (fa : List He.Fa) (fn : List He.DefD) (sd : List StD) (ex : PySem.W.Frag → Bool) (K : PySem.W.Frag) : Prop where
  d : He.SaysD fa fn K
  more : ex K = true
  st : ∀ x ∈ sd, Stat K (He.ga K x.cls) x.meth (x.ad K) ∧ ∃ fd, FunD K x.d.name x.d.qual x.d.params x.d.body x.d.scope (x.d.dvs K) (x.d.kws K) (x.ad K) fd
theorem saysS_of {fa : List He.Fa} {fn : List He.DefD} {sd : List StD} {ex : PySem.W.Frag → Bool} {K : PySem.W.Frag} (e : (((He.obsD fa fn K, ex K && sd.all fun x => x.ok K), sd.map fun x => stW K x) : AlS) = valS fn sd) : SaysS fa fn sd ex K := by
  have e1 : He.obsD fa fn K = He.valD fn := congrArg (fun z : AlS => z.1.1) e
  have e2 : (ex K && sd.all fun x => x.ok K) = true := congrArg (fun z : AlS => z.1.2) e
  have e3 : (sd.map fun x => stW K x) = sd.map fun x => x.d.val := congrArg (fun z : AlS => z.2) e
  obtain ⟨a, b⟩ := He.ba e2
  refine ⟨e1, a, fun x hx => ?_⟩
  obtain ⟨i, hi, rfl⟩ := List.mem_iff_getElem.mp hx
  have e4 : (sd.map fun x => stW K x)[i]? = (sd.map fun x => x.d.val)[i]? := by rw [e3]
  rw [List.getElem?_map, List.getElem?_map, List.getElem?_eq_getElem hi] at e4
  exact StD.funD (Option.some.inj e4) (List.all_eq_true.mp b _ hx)
def hookS (n : Nat) (fa : List He.Fa) (fn : List He.DefD) (sd : List StD) (ex : PySem.W.Frag → Bool) : PySem.W.Hook where
  α := AlS
  obs := fun s => obsS n fa fn sd ex s.heap.get?
  val := fun _ => valS fn sd
  says := fun _ h => ∃ K : PySem.W.Frag, K.In h ∧ SaysS fa fn sd ex K
  of := fun _ _ e => ⟨_, He.frT_in, saysS_of e⟩
  keeps := fun _ _ _ ⟨K, hK, c⟩ k => ⟨K, PySem.W.Frag.In.keeps hK k, c⟩
theorem obsS_eq {n : Nat} {fa : List He.Fa} {fn : List He.DefD} {sd : List StD} {ex : PySem.W.Frag → Bool} {g : Addr → Option Obj} {s : Shared} (h : ∀ a, g a = s.heap.get? a) : obsS n fa fn sd ex g = (hookS n fa fn sd ex).obs s := by
  have e : g = s.heap.get? := funext h
  rw [e] <;> rfl
/-! ### C.m(..) -/
section
variable {X : Cx} {CX : CXT} {k : Nat} {f C : Addr} {fd : FuncData} {ps : List Str} {sp : Sp} {ds : List Value} {dvs : List V} {E : L2.St → XK} {x m : Str} {p1 p2 pos : Pos} {e : Expr} {es : List Expr} {t : TA}
def tStat (sp : Sp) (dvs : List V) (E : L2.St → XK) (t : TA) : TE := fun σ H Q => t σ H fun vs H1 => sp (vs ++ dvs) H1 Q (E σ)
theorem pe_stat {pl : Sem Bool} (S : Stat X.K C m f) (F : FnOk X.prog X.w X.K X.mg X.base CX k f fd ps sp) (hr : Room k X.A) (hg : Gl X x) (hm : X.mg x = some (.ref C)) (hb : Binds X.K fd ps ds) (hd : Vals dvs ds) (hx : ∀ σ, PassesAt CX X σ (E σ)) (ha : PA X (e :: es) t)
    (hdb : (x == ("__debug__" : Str)) = false := by decide) (hst : starEach (e :: es) X.env = (false, eval e X.env) :: starEach es X.env := by rfl) (hpl : (backTo pos (starEach es X.env)).any (·.1) = false := by rfl)
    (ht : eval (.Call (.Attribute (.Name x p1) m p2) (e :: es) [] pos) X.env = (do
      let ov ← eval (.Name x p1) X.env
      standAt p2.atName
      let (f, first) ← holding [ov] (getMethod ov m pl)
      callWith pos f first (backTo pos (starEach (e :: es) X.env)) (backToKw pos (keywordEach [] X.env))) := by rfl) :
    PE X (.Call (.Attribute (.Name x p1) m p2) (e :: es) [] pos) (tStat sp dvs E t) := by
  refine ⟨fun pins s σ H Q I h => PySem.W.methodCall_KW (pl := pl) (ld_glob I hg hm ?_ hdb) ht⟩
  obtain ⟨mm, fr⟩ := I.fr
  obtain ⟨p, rest, found, rc⟩ := S.fd
  refine PySem.W.method_of_cls fr I.ok.mod.kin S.ga (PySem.W.cls_sm fr I.ok.mod.kin S.ty S.rd found rc rfl ?_)
  refine PySem.W.callWith_K (first := []) (h₀ := X.base) I.ok.mod.kin S.kp (thn (ha.run pos pins _ σ H _ (I.tok _) h) fun us s1 ⟨vs, H1, I1, r, z⟩ => ⟨I1.kIn, ?_⟩) hst hpl
  have n : (us ++ ds).length = ps.length := by
    rw [← F.len _ _ _ _ z, List.length_append, List.length_append, r.length, hd.length]
  have b := hb s1 us I1.kIn n
  refine wpAny_call (codeAny_mono (F.run X.A X.stack s1 H1 ⟨us, []⟩ (us ++ ds) (vs ++ dvs) Q (E σ) hr I1.env0 b (r.append hd) z) fun res s2 y => ?_)
  cases res with
  | error er => exact hx σ pins H1 s1 er s2 I1 y
  | ok fl =>
    cases fl with
    | ret u => exact I1.after y
    | next => exact y.elim
    | brk => exact y.elim
    | cont => exact y.elim
end
end Tl

/-! Operators that an own class defines, as rules of the hand layer: a op b, str op a, ~a, x in a, len(a), bool(a), a op= b, a == b. -/
namespace Tl
open PySem PySem.Spec PyProof.Rows L2
theorem back_ok {X : Cx} {pins : List (Addr × Obj)} {σ : L2.St} {Q : VK} {u : Value} {s : Shared} (h : EP X pins σ Q u s) : PySem.W.CmpBack (EP X pins σ Q) u s := by
  cases u with
  | notImplemented =>
    obtain ⟨v, H', _, rv, _⟩ := h
    cases v <;> first | (exact nomatch rv) | (obtain ⟨_, e⟩ := rv; exact nomatch e)
  | _ => exact h
theorem relRef (a : Addr) : RelV (.ref a) (.ref a) := rfl
theorem relStr (z : Str) (t : Tok) : RelV (.str z) (.str z t) := ⟨t, rfl⟩
/-- the class at C, a method m of it at f, m an operator's name -/
structure OpC (K : PySem.W.Frag) (C : Addr) (m : Str) (f : Addr) : Prop where
  at_ : PySem.W.findIn K (.ref C) m = some (some (.ref f))
  fn : PySem.W.isFn K (.ref f) = true
section
variable {X : Cx} {CX : CXT} {k : Nat} {C f : Addr} {fd : FuncData} {ps : List Str} {sp : Sp} {E : XK}
theorem inst_of {pins : List (Addr × Obj)} {σ : L2.St} {H : Hp} {s : Shared} {a dx : Addr} {fs : List (Str × V)} (I : Inv X pins σ H s) (e : H a = some (.ins C dx fs)) : ∃ ox od, PySem.W.InstAt s.heap a ox C (some od) := by
  obtain ⟨mA, O, _, _, _, _⟩ := ins_get I.hok e
  obtain ⟨od, J, _⟩ := O.look
  exact ⟨_, od, J⟩
theorem run_op {pins : List (Addr × Obj)} {σ : L2.St} {H : Hp} {s : Shared} {Q : VK} {vs : List V} {us : List Value} (F : FnOk X.prog X.w X.K X.mg X.base CX k f fd ps sp) (hr : Room k X.A) (hb : Binds X.K fd ps []) (hx : Passes CX X E)
    (I : Inv X pins σ H s) (r : Vals vs us) (h : sp vs H Q E) : wpAny (model X.prog X.w) X.A (call (.ref f) us) (EP X pins σ Q) X.xe s :=
  run_fn (dvs := []) F hr hb .nil hx I r (by rw [List.append_nil]; exact h)
/-- a op b, both instances of C -/
def rBin (C : Addr) (sp : Sp) (E : XK) : R2 := fun x y H Q => ∃ a dx fs b dy gs, x = .ref a ∧ y = .ref b ∧ H a = some (.ins C dx fs) ∧ H b = some (.ins C dy gs) ∧ sp [.ref a, .ref b] H Q E
theorem op_bin {op : Operator} (hc : PySem.W.selfFirst X.K C = true) (M : OpC X.K C (PySem.dunder op.info.2) f) (F : FnOk X.prog X.w X.K X.mg X.base CX k f fd ps sp) (hr : Room k X.A) (hb : Binds X.K fd ps []) (hx : Passes CX X E) :
    OpR X (binaryOp op) (rBin C sp E) := by
  intro pins s σ H x y v u Q I rx ry h
  obtain ⟨a, dx, fs, b, dy, gs, rfl, rfl, ha, hb2, q⟩ := h
  cases rx
  cases ry
  obtain ⟨oa, da, Ja⟩ := inst_of I ha
  obtain ⟨ob, db, Jb⟩ := inst_of I hb2
  obtain ⟨mm, Fm⟩ := I.fr
  have one := run_op F hr hb hx I (.cons (relRef _) (.cons (relRef _) .nil)) q
  exact PySem.W.binop_K Fm I.mod.kin Ja Jb.type hc M.at_ M.fn (wpAny_mono one (fun _ _ z => back_ok z) fun _ _ z => z)
/-- a op z, a an instance of C, z a text -/
def rBinS (C : Addr) (sp : Sp) (E : XK) : R2 := fun x y H Q => ∃ a dx fs z, x = .ref a ∧ y = .str z ∧ H a = some (.ins C dx fs) ∧ sp [.ref a, .str z] H Q E
theorem op_binS {op : Operator} {fo ro rc : Option Value} (hc : PySem.W.selfFirst X.K C = true) (M : OpC X.K C (PySem.dunder op.info.2) f) (hR : PySem.W.findIn X.K (.ref C) (dunderR op.info.2) = some rc) (hp : rc = none ∨ ∃ g : Addr, rc = some (.ref g))
    (h1 : PySem.W.findIn X.K (.type "str") (PySem.dunder op.info.2) = some fo) (h2 : PySem.W.findIn X.K (.type "str") (dunderR op.info.2) = some ro) (hsub : PySem.W.subIn X.K (.type "str") (.ref C) = some false)
    (F : FnOk X.prog X.w X.K X.mg X.base CX k f fd ps sp) (hr : Room k X.A) (hb : Binds X.K fd ps []) (hx : Passes CX X E) : OpR X (binaryOp op) (rBinS C sp E) := by
  intro pins s σ H x y v u Q I rx ry h
  obtain ⟨a, dx, fs, z, rfl, rfl, ha, q⟩ := h
  cases rx
  obtain ⟨t, rfl⟩ := ry
  obtain ⟨oa, da, Ja⟩ := inst_of I ha
  obtain ⟨mm, Fm⟩ := I.fr
  have one := run_op F hr hb hx I (.cons (relRef _) (.cons (relStr z t) .nil)) q
  exact PySem.W.ksp_binT Fm I.mod.kin Ja (by rfl) hc M.at_ M.fn hR hp h1 h2 hsub (wpAny_mono one (fun _ _ z => back_ok z) fun _ _ z => z)
/-- ~a -/
def rInv (C : Addr) (sp : Sp) (E : XK) : V → Hp → VK → Prop := fun x H Q => ∃ a dx fs, x = .ref a ∧ H a = some (.ins C dx fs) ∧ sp [.ref a] H Q E
theorem un_own (M : OpC X.K C "__invert__" f) (F : FnOk X.prog X.w X.K X.mg X.base CX k f fd ps sp) (hr : Room k X.A) (hb : Binds X.K fd ps []) (hx : Passes CX X E) : UnR X (unaryOp .Invert) (rInv C sp E) := by
  intro pins s σ H x v Q I rx h
  obtain ⟨a, dx, fs, rfl, ha, q⟩ := h
  cases rx
  obtain ⟨oa, da, Ja⟩ := inst_of I ha
  obtain ⟨mm, Fm⟩ := I.fr
  have one := run_op F hr hb hx I (.cons (relRef _) .nil) q
  exact PySem.W.ksp_inv Fm I.mod.kin Ja M.at_ M.fn one
/-- x in a, the method handing back True or False -/
def rInO (C : Addr) (sp : Sp) (E : XK) (neg : Bool) : R2 := fun x y H Q => ∃ a dx fs, y = .ref a ∧ H a = some (.ins C dx fs) ∧ sp [.ref a, x] H (fun v H' => ∃ b, v = .bl b ∧ Q (.bl (if neg then !b else b)) H') E
theorem op_inO (M : OpC X.K C "__contains__" f) (F : FnOk X.prog X.w X.K X.mg X.base CX k f fd ps sp) (hr : Room k X.A) (hb : Binds X.K fd ps []) (hx : Passes CX X E) : OpR X (compareOp .In) (rInO C sp E false) := by
  intro pins s σ H x y v u Q I rx ry h
  obtain ⟨a, dx, fs, rfl, ha, q⟩ := h
  cases ry
  obtain ⟨oa, da, Ja⟩ := inst_of I ha
  obtain ⟨mm, Fm⟩ := I.fr
  have one := run_op F hr hb hx I (.cons (relRef _) (.cons rx .nil)) q
  refine PySem.W.in_K Fm I.mod.kin Ja M.at_ M.fn (wpAny_mono one (fun r s' z => ?_) fun _ _ z => z)
  obtain ⟨w, H', I', rw', b, rfl, q'⟩ := z
  cases rw'
  exact wpAny_truthy_bool ⟨.bl b, H', I', rfl, q'⟩
theorem op_notInO (M : OpC X.K C "__contains__" f) (F : FnOk X.prog X.w X.K X.mg X.base CX k f fd ps sp) (hr : Room k X.A) (hb : Binds X.K fd ps []) (hx : Passes CX X E) : OpR X (compareOp .NotIn) (rInO C sp E true) := by
  intro pins s σ H x y v u Q I rx ry h
  obtain ⟨a, dx, fs, rfl, ha, q⟩ := h
  cases ry
  obtain ⟨oa, da, Ja⟩ := inst_of I ha
  obtain ⟨mm, Fm⟩ := I.fr
  have one := run_op F hr hb hx I (.cons (relRef _) (.cons rx .nil)) q
  refine PySem.W.notIn_K Fm I.mod.kin Ja M.at_ M.fn (wpAny_mono one (fun r s' z => ?_) fun _ _ z => z)
  obtain ⟨w, H', I', rw', b, rfl, q'⟩ := z
  cases rw'
  exact wpAny_truthy_bool ⟨.bl (!b), H', I', rfl, q'⟩
/-- len(a) by an own method -/
def rLenO (C : Addr) (sp : Sp) (E : XK) : List V → Hp → VK → Prop := fun xs H Q => ∃ a dx fs, xs = [.ref a] ∧ H a = some (.ins C dx fs) ∧ sp [.ref a] H (fun v H' => ∃ n : Int, v = .int n ∧ 0 ≤ n ∧ n < 2 ^ 63 ∧ Q (.int n) H') E
/-- truth of a by an own method -/
def rTruO (C : Addr) (sp : Sp) (E : XK) : V → Hp → (Bool → Hp → Prop) → Prop := fun x H Q => ∃ a dx fs, x = .ref a ∧ H a = some (.ins C dx fs) ∧ sp [.ref a] H (fun v H' => ∃ b, v = .bl b ∧ Q b H') E
theorem tru_own (M : OpC X.K C "__bool__" f) (F : FnOk X.prog X.w X.K X.mg X.base CX k f fd ps sp) (hr : Room k X.A) (hb : Binds X.K fd ps []) (hx : Passes CX X E) : TruR X (rTruO C sp E) := by
  intro pins s σ H x v Q I rx h
  obtain ⟨a, dx, fs, rfl, ha, q⟩ := h
  cases rx
  obtain ⟨oa, da, Ja⟩ := inst_of I ha
  obtain ⟨mm, Fm⟩ := I.fr
  have one := run_op F hr hb hx I (.cons (relRef _) .nil) q
  refine PySem.W.truthy_K Fm I.mod.kin Ja M.at_ M.fn (wpAny_mono one (fun r s' z => ?_) fun _ _ z => z)
  obtain ⟨w, H', I', rw', b, rfl, q'⟩ := z
  cases rw'
  exact ⟨H', I', q'⟩
/-- a op= y -/
def rIp (C : Addr) (sp : Sp) (E : XK) : TIp := fun x y H Q => ∃ a dx fs, x = .ref a ∧ H a = some (.ins C dx fs) ∧ sp [.ref a, y] H Q E
theorem ip_own {op : Operator} (hc : PySem.W.selfFirst X.K C = true) (M : OpC X.K C (dunderI op.info.2) f) (F : FnOk X.prog X.w X.K X.mg X.base CX k f fd ps sp) (hr : Room k X.A) (hb : Binds X.K fd ps []) (hx : Passes CX X E) : PIp X op (rIp C sp E) := by
  intro pins s σ H x y v u Q I rx ry h
  obtain ⟨a, dx, fs, rfl, ha, q⟩ := h
  cases rx
  obtain ⟨oa, da, Ja⟩ := inst_of I ha
  obtain ⟨mm, Fm⟩ := I.fr
  have one := run_op F hr hb hx I (.cons (relRef _) (.cons ry .nil)) q
  exact PySem.W.ksp_inplace Fm I.mod.kin Ja hc M.at_ M.fn (wpAny_mono one (fun _ _ z => back_ok z) fun _ _ z => z)
/-- the left operand is of a built-in type that declines, the right one an instance of C -/
theorem binR {prog : Program} {w : World} {A : Around} {E' : Value → Shared → Prop} {s : Shared} {K : PySem.W.Frag} {x C f g L : Addr} {h₀ : Heap} {m : Str → Option Value} {ox : Obj} {od : Option Obj} {T : String} {op : Operator} {b : Value} {fo ro : Option Value} {Q : Value → Shared → Prop}
    (F : Fr h₀ L s.heap m) (X₀ : K.In h₀) (J : PySem.W.InstAt s.heap x ox C od) (hb : typeOf b = pure (.type T)) (hc : PySem.W.selfFirst K C = true)
    (hs : PySem.W.findIn K (.ref C) (PySem.dunder op.info.2) = some (some (.ref f))) (hg : PySem.W.findIn K (.ref C) (dunderR op.info.2) = some (some (.ref g))) (hf : PySem.W.isFn K (.ref g) = true)
    (h1 : PySem.W.findIn K (.type T) (PySem.dunder op.info.2) = some fo) (h2 : PySem.W.findIn K (.type T) (dunderR op.info.2) = some ro) (hl : ((fo.isSome && !isSeqSlot fo) || (ro.isSome && !isSeqSlot ro)) = false)
    (h : wpAny (model prog w) A (call (.ref g) [.ref x, b]) (PySem.W.CmpBack Q) E' s) : wpAny (model prog w) A (binaryOp op b (.ref x)) Q E' s := by
  have Xk := X₀.keeps F.keep
  obtain ⟨cd, rest, hcd, hm⟩ := PySem.W.ksp_first hc
  rcases hi : op.info with ⟨sym, nm'⟩
  rw [hi] at hs hg h1 h2
  dsimp only at hs hg h1 h2
  have one := PySem.W.ksp_try Xk J hg hf h
  obtain ⟨hh, gg, d, tt, os⟩ := s
  have L1 : PySem.W.Looks (model prog w) hh (typeOf b) (.type T) := PySem.W.Looks.of_pure hb
  have L2 : PySem.W.Looks (model prog w) hh (typeOf (.ref x)) (.ref C) := J.type
  have L3 : PySem.W.Looks (model prog w) hh (fillsNumberSlot (.ref C) nm') true := PySem.W.fills_K Xk hcd hm hs
  have L4 : PySem.W.Looks (model prog w) hh (fillsNumberSlot (.type T) nm') false := by
    have z := PySem.W.ksp_fillsT (M := model prog w) Xk h1 h2
    rw [hl] at z
    exact z
  have hne : (Value.type T == Value.ref C) = false := Bool.eq_false_iff.mpr fun q => by cases beq_iff_eq.mp q
  simp only [binaryOp, hi]
  refine wpAny_holding (wpAny_bind ?_)
  unfold binaryOp1
  refine wpAny_bind (L1.at (wpAny_bind (L2.at (wpAny_bind (L4.at ?_)))))
  simp only [hne, Bool.false_eq_true, if_false]
  ksp_lk
  refine wpAny_mono one (fun r s' hr' => ?_) fun _ _ e => e
  obtain ⟨v, rfl, hq⟩ := hr'
  ksp_lk
  exact hq
/-- z op a, z a text, a an instance of C -/
def rBinR (C : Addr) (sp : Sp) (E : XK) : R2 := fun x y H Q => ∃ a dx fs z, x = .str z ∧ y = .ref a ∧ H a = some (.ins C dx fs) ∧ sp [.ref a, .str z] H Q E
theorem op_binR {op : Operator} {g : Addr} {fo ro : Option Value} (hc : PySem.W.selfFirst X.K C = true) (M0 : OpC X.K C (PySem.dunder op.info.2) g) (M : OpC X.K C (dunderR op.info.2) f)
    (h1 : PySem.W.findIn X.K (.type "str") (PySem.dunder op.info.2) = some fo) (h2 : PySem.W.findIn X.K (.type "str") (dunderR op.info.2) = some ro) (hl : ((fo.isSome && !isSeqSlot fo) || (ro.isSome && !isSeqSlot ro)) = false)
    (F : FnOk X.prog X.w X.K X.mg X.base CX k f fd ps sp) (hr : Room k X.A) (hb : Binds X.K fd ps []) (hx : Passes CX X E) : OpR X (binaryOp op) (rBinR C sp E) := by
  intro pins s σ H x y v u Q I rx ry h
  obtain ⟨a, dx, fs, z, rfl, rfl, ha, q⟩ := h
  obtain ⟨t, rfl⟩ := rx
  cases ry
  obtain ⟨oa, da, Ja⟩ := inst_of I ha
  obtain ⟨mm, Fm⟩ := I.fr
  have one := run_op F hr hb hx I (.cons (relRef _) (.cons (relStr z t) .nil)) q
  exact binR Fm I.mod.kin Ja (by rfl) hc M0.at_ M.at_ M.fn h1 h2 hl (wpAny_mono one (fun _ _ z => back_ok z) fun _ _ z => z)
/-- a == b by an own __eq__, b an instance of C too -/
theorem op_eqO (M : OpC X.K C "__eq__" f) (F : FnOk X.prog X.w X.K X.mg X.base CX k f fd ps sp) (hr : Room k X.A) (hb : Binds X.K fd ps []) (hx : Passes CX X E) : OpR X (compareOp .Eq) (rBin C sp E) := by
  intro pins s σ H x y v u Q I rx ry h
  obtain ⟨a, dx, fs, b, dy, gs, rfl, rfl, ha, hb2, q⟩ := h
  cases rx
  cases ry
  obtain ⟨oa, da, Ja⟩ := inst_of I ha
  obtain ⟨ob, db, Jb⟩ := inst_of I hb2
  obtain ⟨mm, Fm⟩ := I.fr
  have one := run_op F hr hb hx I (.cons (relRef _) (.cons (relRef b) .nil)) q
  exact PySem.W.cmp_K (op := .Eq) (Nat.lt_of_succ_lt (hu_of hr)) Fm I.mod.kin Ja Jb.type (by show ((Value.ref C == Value.ref C) || _) = true; rw [beq_self_eq_true]; rfl) M.at_ M.fn (wpAny_mono one (fun _ _ z => back_ok z) fun _ _ z => z)
theorem call_lenO (M : OpC X.K C "__len__" f) (F : FnOk X.prog X.w X.K X.mg X.base CX k f fd ps sp) (hr : Room (k + 1) X.A) (hb : Binds X.K fd ps []) (hx : Passes CX X E) : CallR X (.builtin "len") (rLenO C sp E) := by
  intro pins s σ H xs us Q I r h
  obtain ⟨a, dx, fs, rfl, ha, q⟩ := h
  rw [Vals.ref1 r]
  obtain ⟨oa, da, Ja⟩ := inst_of I ha
  obtain ⟨mm, Fm⟩ := I.fr
  have hl : ([Value.ref a] ++ []).length = ps.length := by
    rw [← F.len _ _ _ _ q]
    rfl
  refine PySem.W.len_K Fm I.mod.kin Ja M.at_ M.fn (wpAny_call (codeAny_mono (F.run X.A.in1 X.stack s H ⟨[.ref a], []⟩ [.ref a] [.ref a] _ E hr.in1 I.env0.in1 (hb _ [.ref a] I.kIn hl) (.cons (relRef _) .nil) q) fun r s' hq => ?_))
  cases r with
  | error er => exact hx pins σ H s er s' I hq
  | ok fl =>
    cases fl with
    | ret u =>
      obtain ⟨v, H', I3, rv, n, rfl, h0, h1, q3⟩ := I.after hq
      obtain ⟨t, rfl⟩ := rv
      exact ⟨⟨h0, h1⟩, .int n, H', I3.tok _, ⟨_, rfl⟩, q3⟩
    | next => exact False.elim hq
    | brk => exact False.elim hq
    | cont => exact False.elim hq
end
end Tl

set_option autoImplicit false
set_option maxErrors 4
/-! a * b, a an instance of an own class or b one, the method may raise; operators whose errors are told by the names of the frame. -/
namespace Tl
open PySem PySem.Spec PyProof.Rows L2
/-- an operation, its ways out told by the frame -/
def OpS (X : Cx) (op : Value → Value → Sem Value) (r : L2.St → R2) : Prop :=
  ∀ (pn : List (Addr × Obj)) (t : Shared) (τ : L2.St) (G : Hp) (a b : V) (va vb : Value) (W : VK), Inv X pn τ G t → RelV a va → RelV b vb → r τ a b G W → wpAny (model X.prog X.w) X.A (op va vb) (EP X pn τ W) X.xe t
def tOpS (r : L2.St → R2) (tl tr : TE) : TE := fun τ G W => tl τ G fun a G1 => tr τ G1 fun b G2 => r τ a b G2 W
theorem pe_opS {X : Cx} {l m : Expr} {o : Operator} {at_ : Pos} {tl tr : TE} {r : L2.St → R2} (h : OpS X (binaryOp o) r) (hl : PE X l tl) (hm : PE X m tr) : PE X (.BinOp l o m at_) (tOpS r tl tr) :=
  ⟨fun pn t τ G W I z => wpAny_BinOp (binT hl hm I z fun va vb t2 a b G2 J ra rb y => h pn t2 τ G2 a b va vb W J ra rb y)⟩
/-- a value of a built-in type -/
inductive Pl (H : Hp) : V → String → Prop
  | non : Pl H .non "NoneType"
  | bl (b : Bool) : Pl H (.bl b) "bool"
  | int (n : Int) : Pl H (.int n) "int"
  | str (z : Str) : Pl H (.str z) "str"
  | lst {a : Addr} {xs : List V} : H a = some (.lst xs) → Pl H (.ref a) "list"
theorem Pl.looks {X : Cx} {pn : List (Addr × Obj)} {τ : L2.St} {H : Hp} {t : Shared} {x : V} {u : Value} {T : String} (p : Pl H x T) (I : Inv X pn τ H t) (r : RelV x u) : PySem.W.Looks (model X.prog X.w) t.heap (typeOf u) (.type T) := by
  cases p with
  | non =>
    cases r
    exact PySem.W.Looks.of_pure rfl
  | bl b =>
    cases r
    exact PySem.W.Looks.of_pure rfl
  | int n =>
    obtain ⟨k, rfl⟩ := r
    exact PySem.W.Looks.of_pure rfl
  | str z =>
    obtain ⟨k, rfl⟩ := r
    exact PySem.W.Looks.of_pure rfl
  | @lst a xs e =>
    cases r
    obtain ⟨_, its, n, _, g⟩ := (show ObjOk X.prog X.w H t.heap a (.lst xs) from I.hok a _ e)
    intro _ _ _ _ keep q
    exact wpAny_typeOf_ref (keep _ _ g) q
section
variable {prog : Program} {w : World} {A : Around} {E' : Value → Shared → Prop} {s : Shared} {K : PySem.W.Frag} {x C f g L : Addr} {h₀ : Heap} {m : Str → Option Value} {ox : Obj} {od : Option Obj} {T : String} {op : Operator} {b : Value} {fo ro : Option Value} {Q : Value → Shared → Prop}
/-- the left operand an instance, the right one of a built-in type -/
theorem binL (F : Fr h₀ L s.heap m) (X₀ : K.In h₀) (J : PySem.W.InstAt s.heap x ox C od) (hb : PySem.W.Looks (model prog w) s.heap (typeOf b) (.type T)) (hc : PySem.W.selfFirst K C = true)
    (hs : PySem.W.findIn K (.ref C) (PySem.dunder op.info.2) = some (some (.ref f))) (hf : PySem.W.isFn K (.ref f) = true) (hg : PySem.W.findIn K (.ref C) (dunderR op.info.2) = some (some (.ref g)))
    (h1 : PySem.W.findIn K (.type T) (PySem.dunder op.info.2) = some fo) (h2 : PySem.W.findIn K (.type T) (dunderR op.info.2) = some ro) (no : PySem.W.subIn K (.type T) (.ref C) = some false)
    (h : wpAny (model prog w) A (call (.ref f) [.ref x, b]) (PySem.W.CmpBack Q) E' s) : wpAny (model prog w) A (binaryOp op (.ref x) b) Q E' s := by
  have Xk := X₀.keeps F.keep
  obtain ⟨cd, rest, hcd, hm⟩ := PySem.W.ksp_first hc
  rcases hi : op.info with ⟨sym, nm'⟩
  rw [hi] at hs hg h1 h2
  dsimp only at hs hg h1 h2
  have tried := PySem.W.ksp_try Xk J hs hf h
  obtain ⟨hh, gg, d, tt, os⟩ := s
  have A1 : PySem.W.Looks (model prog w) hh (typeOf (.ref x)) (.ref C) := J.type
  have A2 : PySem.W.Looks (model prog w) hh (typeOf b) (.type T) := hb
  have A3 : PySem.W.Looks (model prog w) hh (fillsNumberSlot (.ref C) nm') true := PySem.W.fills_K Xk hcd hm hs
  have A4 := PySem.W.ksp_fillsT (M := model prog w) Xk h1 h2
  have A5 : PySem.W.Looks (model prog w) hh (isSubtype (.type T) (.ref C)) false := PySem.W.looks_subIn Xk no
  have A6 : PySem.W.Looks (model prog w) hh (numberSlotInPython (.ref C) nm') true := PySem.W.ksp_inPy Xk hs hg (.inr ⟨g, rfl⟩)
  have A7 : PySem.W.Looks (model prog w) hh (numberSlotInPython (.type T) nm') false := PySem.W.Looks.of_pure rfl
  have A8 : PySem.W.Looks (model prog w) hh (typeLookup (.type T) (dunderR nm')) ro := PySem.W.looks_findIn Xk h2
  generalize ((fo.isSome && !isSeqSlot fo) || (ro.isSome && !isSeqSlot ro)) = side at A4
  have unlike : (Value.ref C == Value.type T) = false := Bool.eq_false_iff.mpr fun q => by cases beq_iff_eq.mp q
  simp only [binaryOp, hi]
  refine wpAny_holding (wpAny_bind ?_)
  unfold binaryOp1
  refine wpAny_bind (A1.at (wpAny_bind (A2.at (wpAny_bind (A3.at ?_)))))
  simp only [unlike, Bool.false_eq_true, if_false]
  cases side with
  | false =>
    ksp_lk
    refine wpAny_mono tried (fun r s' z => ?_) fun _ _ e => e
    obtain ⟨v, rfl, q⟩ := z
    ksp_lk
    exact q
  | true =>
    ksp_lk
    refine wpAny_mono tried (fun r s' z => ?_) fun _ _ e => e
    obtain ⟨v, rfl, q⟩ := z
    ksp_lk
    exact q
/-- the left operand of a built-in type without a number's slot, the right one an instance -/
theorem binN (F : Fr h₀ L s.heap m) (X₀ : K.In h₀) (J : PySem.W.InstAt s.heap x ox C od) (hb : PySem.W.Looks (model prog w) s.heap (typeOf b) (.type T)) (hc : PySem.W.selfFirst K C = true)
    (hs : PySem.W.findIn K (.ref C) (PySem.dunder op.info.2) = some (some (.ref f))) (hg : PySem.W.findIn K (.ref C) (dunderR op.info.2) = some (some (.ref g))) (hf : PySem.W.isFn K (.ref g) = true)
    (h1 : PySem.W.findIn K (.type T) (PySem.dunder op.info.2) = some fo) (h2 : PySem.W.findIn K (.type T) (dunderR op.info.2) = some ro) (hl : ((fo.isSome && !isSeqSlot fo) || (ro.isSome && !isSeqSlot ro)) = false)
    (h : wpAny (model prog w) A (call (.ref g) [.ref x, b]) (PySem.W.CmpBack Q) E' s) : wpAny (model prog w) A (binaryOp op b (.ref x)) Q E' s := by
  have Xk := X₀.keeps F.keep
  obtain ⟨cd, rest, hcd, hm⟩ := PySem.W.ksp_first hc
  rcases hi : op.info with ⟨sym, nm'⟩
  rw [hi] at hs hg h1 h2
  dsimp only at hs hg h1 h2
  have tried := PySem.W.ksp_try Xk J hg hf h
  obtain ⟨hh, gg, d, tt, os⟩ := s
  have A1 : PySem.W.Looks (model prog w) hh (typeOf b) (.type T) := hb
  have A2 : PySem.W.Looks (model prog w) hh (typeOf (.ref x)) (.ref C) := J.type
  have A3 : PySem.W.Looks (model prog w) hh (fillsNumberSlot (.ref C) nm') true := PySem.W.fills_K Xk hcd hm hs
  have A4 := PySem.W.ksp_fillsT (M := model prog w) Xk h1 h2
  rw [hl] at A4
  have unlike : (Value.type T == Value.ref C) = false := Bool.eq_false_iff.mpr fun q => by cases beq_iff_eq.mp q
  simp only [binaryOp, hi]
  refine wpAny_holding (wpAny_bind ?_)
  unfold binaryOp1
  refine wpAny_bind (A1.at (wpAny_bind (A2.at (wpAny_bind (A4.at ?_)))))
  simp only [unlike, Bool.false_eq_true, if_false]
  ksp_lk
  refine wpAny_mono tried (fun r s' z => ?_) fun _ _ e => e
  obtain ⟨v, rfl, q⟩ := z
  ksp_lk
  exact q
/-- the left operand of a built-in type whose own method declines -/
theorem binD {id : String} (F : Fr h₀ L s.heap m) (X₀ : K.In h₀) (J : PySem.W.InstAt s.heap x ox C od) (hT : s.TypeIs b T) (hb : PySem.W.Looks (model prog w) s.heap (typeOf b) (.type T)) (hc : PySem.W.selfFirst K C = true)
    (hs : PySem.W.findIn K (.ref C) (PySem.dunder op.info.2) = some (some (.ref f))) (hg : PySem.W.findIn K (.ref C) (dunderR op.info.2) = some (some (.ref g))) (hf : PySem.W.isFn K (.ref g) = true)
    (fills : fillsNumberSlot (.type T) op.info.2 = pure true) (no : PySem.W.subIn K (.ref C) (.type T) = some false) (slot : Slot T (PySem.dunder op.info.2) id)
    (declines : ∀ R : Value → Shared → Prop, R .notImplemented s → wpAny (model prog w) A (call (.builtin id) [b, .ref x]) R E' s)
    (h : wpAny (model prog w) A (call (.ref g) [.ref x, b]) (PySem.W.CmpBack Q) E' s) : wpAny (model prog w) A (binaryOp op b (.ref x)) Q E' s := by
  have Xk := X₀.keeps F.keep
  obtain ⟨cd, rest, hcd, hm⟩ := PySem.W.ksp_first hc
  rcases hi : op.info with ⟨sym, nm'⟩
  rw [hi] at hs hg fills slot
  dsimp only at hs hg fills slot
  have tried := PySem.W.ksp_try Xk J hg hf h
  obtain ⟨hh, gg, d, tt, os⟩ := s
  have A1 : PySem.W.Looks (model prog w) hh (typeOf b) (.type T) := hb
  have A2 : PySem.W.Looks (model prog w) hh (typeOf (.ref x)) (.ref C) := J.type
  have A3 : PySem.W.Looks (model prog w) hh (fillsNumberSlot (.ref C) nm') true := PySem.W.fills_K Xk hcd hm hs
  have A4 : PySem.W.Looks (model prog w) hh (fillsNumberSlot (.type T) nm') true := PySem.W.Looks.of_pure fills
  have A5 : PySem.W.Looks (model prog w) hh (isSubtype (.ref C) (.type T)) false := PySem.W.looks_subIn Xk no
  have A7 : PySem.W.Looks (model prog w) hh (numberSlotInPython (.type T) nm') false := PySem.W.Looks.of_pure rfl
  have unlike : (Value.type T == Value.ref C) = false := Bool.eq_false_iff.mpr fun q => by cases beq_iff_eq.mp q
  simp only [binaryOp, hi]
  refine wpAny_holding (wpAny_bind ?_)
  unfold binaryOp1
  refine wpAny_bind (A1.at (wpAny_bind (A2.at (wpAny_bind (A4.at ?_)))))
  simp only [unlike, Bool.false_eq_true, if_false]
  ksp_lk
  refine wpAny_tryMethod_declines hT slot (declines _ ⟨rfl, ?_⟩)
  ksp_lk
  refine wpAny_mono tried (fun r s' z => ?_) fun _ _ e => e
  obtain ⟨v, rfl, q⟩ := z
  ksp_lk
  exact q
end
theorem asInt_no {M : Model} {A : Around} {E : Value → Shared → Prop} {s : Shared} {p C dx : Addr} {Q : Option Int → Shared → Prop} (g : s.heap.get? p = some (PySem.W.instObj C dx)) (q : Q none s) : wpAny M A (asInt? (.ref p)) Q E s := by
  simp only [asInt?]
  exact wpAny_bind (wpAny_load g (wpAny_pure q))
theorem mul_no (n : Int) (k : Tok) (p C dx : Addr) :
    Meets (Builtin.«int.__mul__» ⟨[.int n k, .ref p], []⟩) (fun _ R t => t.heap.get? p = some (PySem.W.instObj C dx) ∧ R (.ok (.ret Value.notImplemented)) t) := by
  refine .of_wp fun prog w A R t z => ?_
  obtain ⟨hp, gg, dd, tk, os⟩ := t
  obtain ⟨g, z⟩ := z
  wp_walk
  exact ⟨_, rfl, z⟩
theorem mul_noB (n : Bool) (p C dx : Addr) :
    Meets (Builtin.«int.__mul__» ⟨[.bool n, .ref p], []⟩) (fun _ R t => t.heap.get? p = some (PySem.W.instObj C dx) ∧ R (.ok (.ret Value.notImplemented)) t) := by
  refine .of_wp fun prog w A R t z => ?_
  obtain ⟨hp, gg, dd, tk, os⟩ := t
  obtain ⟨g, z⟩ := z
  wp_walk
  exact ⟨_, rfl, z⟩
/-- what the head says of a class with * on both sides -/
structure MulC (K : PySem.W.Frag) (C f g : Addr) : Prop where
  self : PySem.W.selfFirst K C = true
  left : OpC K C (PySem.dunder (Operator.Mult).info.2) f
  right : OpC K C (dunderR (Operator.Mult).info.2) g
  known : ∀ T ∈ ["NoneType", "bool", "int", "str", "list"], (∃ fo ro, PySem.W.findIn K (.type T) (PySem.dunder (Operator.Mult).info.2) = some fo ∧ PySem.W.findIn K (.type T) (dunderR (Operator.Mult).info.2) = some ro ∧
    (T ∈ ["NoneType", "str", "list"] → ((fo.isSome && !isSeqSlot fo) || (ro.isSome && !isSeqSlot ro)) = false)) ∧ PySem.W.subIn K (.type T) (.ref C) = some false ∧ PySem.W.subIn K (.ref C) (.type T) = some false
def mulTB (K : PySem.W.Frag) (C : Addr) (T : String) : Bool := (match PySem.W.findIn K (.type T) (PySem.dunder (Operator.Mult).info.2), PySem.W.findIn K (.type T) (dunderR (Operator.Mult).info.2) with
  | some fo, some ro => decide (T ∈ ["bool", "int"]) || !((fo.isSome && !isSeqSlot fo) || (ro.isSome && !isSeqSlot ro))
  | _, _ => false) && (decide (PySem.W.subIn K (.type T) (.ref C) = some false) && decide (PySem.W.subIn K (.ref C) (.type T) = some false))
def mulB (K : PySem.W.Frag) (C : Addr) : Bool := PySem.W.selfFirst K C && ["NoneType", "bool", "int", "str", "list"].all (mulTB K C)
theorem mulB_ok {K : PySem.W.Frag} {C f g : Addr} (h : mulB K C = true) (l : OpC K C (PySem.dunder (Operator.Mult).info.2) f) (r : OpC K C (dunderR (Operator.Mult).info.2) g) : MulC K C f g := by
  obtain ⟨a, b⟩ := He.ba h
  refine ⟨a, l, r, fun T hT => ?_⟩
  obtain ⟨c, d⟩ := He.ba (List.all_eq_true.mp b T hT)
  obtain ⟨d1, d2⟩ := He.ba d
  refine ⟨?_, of_decide_eq_true d1, of_decide_eq_true d2⟩
  split at c
  · rename_i fo ro e1 e2
    refine ⟨fo, ro, e1, e2, fun m => ?_⟩
    rcases Bool.or_eq_true _ _ ▸ c with z | z
    · exfalso
      have z := of_decide_eq_true z
      simp only [List.mem_cons, List.not_mem_nil, or_false] at z m
      rcases z with rfl | rfl <;> simp at m
    · exact Bool.not_eq_true' _ ▸ z
  · cases c
section
variable {X : Cx} {CX : CXT} {k : Nat} {C f g : Addr} {fd : FuncData} {ps : List Str} {sp : Sp} {E : L2.St → XK}
theorem run_opS {pn : List (Addr × Obj)} {τ : L2.St} {H : Hp} {t : Shared} {W : VK} {vs : List V} {us : List Value} (F : FnOk X.prog X.w X.K X.mg X.base CX k f fd ps sp) (hr : Room k X.A) (hb : Binds X.K fd ps []) (out : PassesAt CX X τ (E τ))
    (I : Inv X pn τ H t) (r : Vals vs us) (h : sp vs H W (E τ)) : wpAny (model X.prog X.w) X.A (call (.ref f) us) (EP X pn τ W) X.xe t := run_fnS F hr hb out I r h
def rMulL (C : Addr) (sp : Sp) (E : L2.St → XK) : L2.St → R2 := fun τ x y H Q => ∃ a dx fs T, x = .ref a ∧ H a = some (.ins C dx fs) ∧ Pl H y T ∧ sp [.ref a, y] H Q (E τ)
theorem op_mulL (M : MulC X.K C f g) (F : FnOk X.prog X.w X.K X.mg X.base CX k f fd ps sp) (hr : Room k X.A) (hb : Binds X.K fd ps []) (out : ∀ τ, PassesAt CX X τ (E τ)) : OpS X (binaryOp .Mult) (rMulL C sp E) := by
  intro pn t τ G x y va vb W I rx ry h
  obtain ⟨a, dx, fs, T, rfl, ha, pl, q⟩ := h
  cases rx
  obtain ⟨oa, da, Ja⟩ := inst_of I ha
  obtain ⟨mm, Fm⟩ := I.fr
  have one := run_opS F hr hb (out τ) I (.cons (relRef _) (.cons ry .nil)) q
  have hT : T ∈ ["NoneType", "bool", "int", "str", "list"] := by cases pl <;> decide
  obtain ⟨⟨fo, ro, e1, e2, _⟩, n1, _⟩ := M.known T hT
  exact binL (op := .Mult) Fm I.mod.kin Ja (pl.looks I ry) M.self M.left.at_ M.left.fn M.right.at_ e1 e2 n1 (wpAny_mono one (fun _ _ z => back_ok z) fun _ _ z => z)
def rMulR (C : Addr) (sp : Sp) (E : L2.St → XK) : L2.St → R2 := fun τ x y H Q => ∃ a dx fs T, y = .ref a ∧ H a = some (.ins C dx fs) ∧ Pl H x T ∧ sp [.ref a, x] H Q (E τ)
theorem op_mulR (M : MulC X.K C f g) (F : FnOk X.prog X.w X.K X.mg X.base CX k g fd ps sp) (hr : Room k X.A) (hb : Binds X.K fd ps []) (out : ∀ τ, PassesAt CX X τ (E τ)) : OpS X (binaryOp .Mult) (rMulR C sp E) := by
  intro pn t τ G x y va vb W I rx ry h
  obtain ⟨a, dx, fs, T, rfl, ha, pl, q⟩ := h
  cases ry
  obtain ⟨oa, da, Ja⟩ := inst_of I ha
  obtain ⟨mm, Fm⟩ := I.fr
  have one := wpAny_mono (run_opS F hr hb (out τ) I (.cons (relRef _) (.cons rx .nil)) q) (fun _ _ z => back_ok z) fun _ _ z => z
  have look := pl.looks I rx
  have hT : T ∈ ["NoneType", "bool", "int", "str", "list"] := by cases pl <;> decide
  obtain ⟨⟨fo, ro, e1, e2, low⟩, _, n2⟩ := M.known T hT
  obtain ⟨mA, O, _⟩ := ins_get I.hok ha
  cases pl with
  | non => exact binN (op := .Mult) Fm I.mod.kin Ja look M.self M.left.at_ M.right.at_ M.right.fn e1 e2 (low (by decide)) one
  | str z => exact binN (op := .Mult) Fm I.mod.kin Ja look M.self M.left.at_ M.right.at_ M.right.fn e1 e2 (low (by decide)) one
  | lst e => exact binN (op := .Mult) Fm I.mod.kin Ja look M.self M.left.at_ M.right.at_ M.right.fn e1 e2 (low (by decide)) one
  | int n =>
    obtain ⟨kk, rfl⟩ := rx
    exact binD (op := .Mult) Fm I.mod.kin Ja (typeIs_int t n kk) look M.self M.left.at_ M.right.at_ M.right.fn PySem.F.fills_int_mul n2 PySem.F.slot_int_mul
      (fun R r => call_meets PySem.F.slot_int_mul (typeIs_int t n kk) PySem.F.entry_int_mul (PySem.F.args_int_mul_2 _ _) (mul_no n kk a C dx) ⟨O.obj, r⟩) one
  | bl b =>
    cases rx
    exact binD (op := .Mult) Fm I.mod.kin Ja (PySem.typeIs_bool t b) look M.self M.left.at_ M.right.at_ M.right.fn PySem.F.fills_bool_mul n2 PySem.F.slot_bool_mul
      (fun R r => call_meets PySem.F.slot_bool_mul (PySem.typeIs_bool t b) PySem.F.entry_int_mul (PySem.F.args_int_mul_2 _ _) (mul_noB b a C dx) ⟨O.obj, r⟩) one
end
end Tl

/-! Exceptions: X() of an own class, C(e) with an own __init__ where nothing is handled, a def called in an except suite that knows the exception, isinstance of it there. -/
namespace Tl
open PySem PySem.Spec PyProof.Rows L2
section
variable {X : Cx} {C : Addr} {bmB : List Value} {B newId initId : String}
/-- X() -/
theorem pmkN_own0 {x : Str} {p pos : Pos} (Fb : ExcBaseFacts B newId initId bmB) (hq : PySem.W.excIn X.K C bmB newId = true) (gC : X.mg x = some (.ref C)) (kC : PySem.W.keepIn X.K (.ref C) = true) (r : Raises X (.ref C)) (hg : Gl X x)
    (hdb : (x == ("__debug__" : Str)) = false := by decide) : L2N.PMk X (.Call (.Name x p) [] [] pos) (fun _ H Q => Q (.ref C) none H) := by
  intro pins s σ H Q I h
  refine wpAny_Call_Name_kw (ld_glob I hg gC ?_ hdb)
  refine PySem.W.callWith_K0 I.kIn kC ?_
  show wpAny _ _ (call (.ref C) []) _ _ _
  obtain ⟨bm, N, nm, qn, bs, hdct, sn, sub, ab, col, dd, k0, k1, k2, k3, k5, mN, hC, hN, hni, T⟩ := exc_obj I.kIn hq
  exact wpAny_call_exc_subT Fb T hC hN hni (fun h' e hm => L2N.mk_of I hm r h (I.hok.gone hm.new)) (Nat.zero_le _)
end
/-- C(e, ..) with an own __init__, nothing being handled -/
theorem pmkN_oex {X : Cx} {CX : CXT} {x : Str} {e : Expr} {es : List Expr} {ta : TA} {p pos : Pos} {C fI : Addr} {k : Nat} {fd : FuncData} {ps : List Str} {sp : Sp} (T : OexC X.K C) (iC : PySem.W.findIn X.K (.ref C) "__init__" = some (some (.ref fI))) (tI : PySem.W.typeIn X.K (.ref fI) = some (.type "function"))
    (Fi : FnOk X.prog X.w X.K X.mg X.base CX k fI fd ps sp) (hr : Room (k + 1) X.A) (hb : Binds X.K fd ps []) (hx : Passes CX X (fun _ _ _ => False)) (hg : Gl X x) (hm : X.mg x = some (.ref C)) (ha : PA X (e :: es) ta)
    (hdb : (x == ("__debug__" : Str)) = false := by decide) (he : starEach (e :: es) X.env = (false, eval e X.env) :: starEach es X.env := by rfl) (hpl : (backTo pos (starEach es X.env)).any (·.1) = false := by rfl) :
    L2N.PMk X (.Call (.Name x p) (e :: es) [] pos) (tMkO C sp [] ta) := by
  intro pins s σ H Q I h
  obtain ⟨nm, qn, N, bs, bm, sn, sub, ab, col, dd, k0, k1, k2, k3, k5, hC, hbm⟩ := T.cls
  refine wpAny_Call_Name_kw (ld_glob I hg hm ?_ hdb)
  refine PySem.W.callWith_K (h₀ := X.base) I.ok.mod.kin T.kC (thn (ha.run pos pins s σ H _ I h) fun us s1 ⟨vs, H1, I1, r1, hz, q1⟩ => ⟨I1.kIn, ?_⟩) he hpl
  show wpAny _ _ (call (.ref C) us) _ _ _
  obtain ⟨hh, gn, dr, tk, os⟩ := s1
  generalize hA : hh.objs.size + 1 = A
  have hle : hh.objs.size ≤ A := by
    rw [← hA]
    exact Nat.le_succ _
  have hq := q1 A (I1.hok.fresh hle)
  rw [List.append_nil] at hq
  generalize hG : (hh.push (PySem.W.kdv_tup us)).push (PySem.HandSPX.excO C hh.objs.size) = G
  have kk : ∀ b o, hh.get? b = some o → G.get? b = some o := fun b o z => by
    rw [← hG]
    exact Heap.get?_push_of_some _ (Heap.get?_push_of_some _ z)
  have hget : G.get? A = some (PySem.HandSPX.excO C hh.objs.size) := by
    rw [← hG, ← hA]
    heap_get
  have I2 : Inv X pins σ (upd H1 A (exo A C none)) ⟨G, gn, dr, tk, os⟩ := I1.laid (t' := tk) (a := A) (o := exo A C none) (h' := G) kk hle (exo_ok hget)
  have r2 : Vals (V.ref A :: vs) (Value.ref A :: us) := .cons rfl r1
  have hl : (Value.ref A :: us ++ []).length = ps.length := by
    rw [List.append_nil, ← Fi.len _ _ _ _ hq]
    exact r2.length.symm
  have hus : us.length ≤ sizeLine := by
    rw [← Paired.length r1, sizeLine_eq]
    omega
  have b2 := hb _ (Value.ref A :: us) I2.kIn hl
  rw [List.append_nil] at b2
  have run := Fi.run _ X.stack _ _ ⟨Value.ref A :: us, []⟩ (Value.ref A :: us) _ _ (fun _ _ _ => False) (hr.make C us []) (I2.env0.make C us []) b2 r2 hq
  subst hA hG
  refine wpAny_call (PySem.HandSPX.call_own F.excBase_ValueError (fun Y => PySem.HandSPX.refsVE_contains Y bm hbm) (I1.kIn _ _ hC) (PySem.W.looks_findIn I1.kIn iC) (fun self => PySem.W.bind_fn I1.kIn self tI) hus (codeAny_mono run fun r s' hq' => ?_))
  cases r with
  | error er => exact hx pins σ _ _ er s' I2 hq'
  | ok fl =>
    cases fl with
    | ret u =>
      obtain ⟨v, H2, os2, bare2, un2, hok2, rv, ev, d, fs, ea, ed, hd1, q2⟩ := hq'
      subst ev
      obtain ⟨h2, g2, d2, t2, os'⟩ := s'
      obtain ⟨t0, G2, J, kG, ge, hoe, na⟩ := mk_end0 (d2 := d2) (t2 := t2) I1 hle kk un2 hok2 os2 bare2 ea ed hd1
      refine ⟨rv, _, _, _, ⟨G2, g2, d2, t2, os'⟩, _, .ref C, some d, rfl, J, kG, ge, hoe, ⟨rfl, rfl, fun vs hv => ?_⟩, rfl, rfl, na, rfl, bare2, raises_own T.exC T.tyC, q2⟩
      cases hv
      rfl
    | next => exact False.elim hq'
    | brk => exact False.elim hq'
    | cont => exact False.elim hq'
end Tl

set_option autoImplicit false
set_option maxErrors 4
/-! Several clauses `except C as n`; isinstance of the exception that a suite holds, its dict there or not. -/
namespace Tl
open PySem PySem.Spec PyProof.Rows L2
open L2N (Zn)
/-- several clauses `except C as n` -/
def wNamed (K : PySem.W.Frag) (Wo : WX) (D : Ends) : List (Value × Nat × (Addr → Value → Option Addr → TS)) → WX
  | [] => Wo
  | (c, i, ts) :: more => fun cls d σ H => ∃ yes, PySem.W.exmOne K cls c = some yes ∧ (yes = false → wNamed K Wo D more cls d σ H) ∧
      (yes = true → ∀ a, H a = none → ts a cls d ⟨fun σ1 H1 => D.nx (σ1.set i none) H1, D.rt, fun σ1 H1 => D.bk (σ1.set i none) H1, fun σ1 H1 => D.ct (σ1.set i none) H1⟩ (σ.set i (some (.ref a))) H)
inductive Clauses (X : Cx) : List ExceptHandler → List (Value × Nat × (Addr → Value → Option Addr → TS)) → Prop
  | none : Clauses X [] []
  | more {x n : Str} {c : Value} {i : Nat} {ts : Addr → Value → Option Addr → TS} {st : Stmt} {sts : List Stmt} {p1 p2 : Pos} {hds : List ExceptHandler} {l : List (Value × Nat × (Addr → Value → Option Addr → TS))}
      (nm : Names X x c) (at_ : X.N[i]? = some n) (lo : X.env.kindOf n = some .local)
      (su : ∀ (a : Addr) (oe : Obj) (cls : Value) (d : Option Addr) (pn : List (Addr × Obj)), Zn cls d oe → (∃ vs, oe.data = .fields vs) → PSs (X.suite a ((a, oe) :: pn)) (st :: sts) (ts a cls d))
      (tl : Clauses X hds l) : Clauses X (.ExceptHandler (some (.Name x p1)) (some n) (st :: sts) p2 :: hds) ((c, i, ts) :: l)
/-- a caught exception at a, on the ground: what stood ahead of it, what it is -/
structure Down (X : Cx) (pins : List (Addr × Obj)) (σ : L2.St) (H : Hp) (cls : Value) (d : Option Addr) (a : Addr) (B : Heap) (s0 s3 : Shared) : Prop where
  inv : Inv X pins σ H s0
  low : ∀ b o, s0.heap.get? b = some o → b ∉ frs X.stack → B.get? b = some o
  up : s0.heap.UpToSlots s3.heap
  fly : HandSPX.FlyingZ B (X.env :: X.outer) a (Zn cls d) s3.heap
  os : s3.os = s0.os
  gs : AllBare s3.gens
  na : H a = none
section
variable {X : Cx} {pins : List (Addr × Obj)} {σ : L2.St} {H : Hp} {cls : Value} {d : Option Addr} {a : Addr} {B : Heap} {s0 s3 : Shared}
theorem Down.here (D : Down X pins σ H cls d a B s0 s3) : Inv X pins σ H s3 := D.inv.landed D.low D.fly.1 D.up D.os D.gs
theorem Down.next {hp : Heap} (D : Down X pins σ H cls d a B s0 s3) (f : HandSPX.FlyingZ B (X.env :: X.outer) a (Zn cls d) hp) (u : s3.heap.UpToSlots hp) : Down X pins σ H cls d a B s0 { s3 with heap := hp } :=
  ⟨D.inv, D.low, D.up.trans u, f, D.os, D.gs, D.na⟩
/-- the state as a suite sees it -/
theorem Down.inside (D : Down X pins σ H cls d a B s0 s3) (hf : X.env.frame = some X.env.locals) :
    ∃ oe vs, s3.heap.get? a = some oe ∧ Zn cls d oe ∧ oe.data = .fields vs ∧ Inv (X.suite a ((a, oe) :: (X.pn ++ pins))) [] σ H s3 := by
  obtain ⟨oe, vs, g, z, e⟩ := D.fly.there
  have off : a ∉ frs (X.env :: X.outer) := fun m => by
    obtain ⟨_, o2, g2, n2⟩ := D.fly.2.2.1.mem m
    rw [g] at g2
    cases g2
    exact n2 _ e
  refine ⟨oe, vs, g, z, e, D.here.suite g e D.na (fun q => off ?_) (fun m => off ?_)⟩
  · exact List.mem_filterMap.mpr ⟨_, List.mem_cons_self, by rw [hf, q]⟩
  · obtain ⟨v, vm, vq⟩ := List.mem_filterMap.mp m
    exact List.mem_filterMap.mpr ⟨v, List.mem_cons_of_mem _ vm, vq⟩
/-- one clause -/
theorem clause_one {x n : Str} {c : Value} {i : Nat} {yes : Bool} {ts : Addr → Value → Option Addr → TS} {st : Stmt} {sts : List Stmt} {p1 p2 : Pos} {hds : List ExceptHandler} {E : Ends}
    (D : Down X pins σ H cls d a B s0 s3) (hf : X.env.frame = some X.env.locals) (nd : X.N.Nodup) (nm : Names X x c) (at_ : X.N[i]? = some n) (lo : X.env.kindOf n = some .local)
    (su : ∀ (a : Addr) (oe : Obj) (cls : Value) (d : Option Addr) (pn : List (Addr × Obj)), Zn cls d oe → (∃ vs, oe.data = .fields vs) → PSs (X.suite a ((a, oe) :: pn)) (st :: sts) (ts a cls d))
    (hy : PySem.W.exmOne X.K cls c = some yes) (no : yes = false → wpAny (model X.prog X.w) X.A (handleBy (.ref a) X.env hds) (SP X pins E) X.xe s3)
    (ok : yes = true → ts a cls d ⟨fun σ1 H1 => E.nx (σ1.set i none) H1, E.rt, fun σ1 H1 => E.bk (σ1.set i none) H1, fun σ1 H1 => E.ct (σ1.set i none) H1⟩ (σ.set i (some (.ref a))) H) :
    wpAny (model X.prog X.w) X.A (handleBy (.ref a) X.env (.ExceptHandler (some (.Name x p1)) (some n) (st :: sts) p2 :: hds)) (SP X pins E) X.xe s3 := by
  obtain ⟨o1, w1, g1, z1, e1, I1⟩ := D.inside hf
  have TY : PySem.W.Looks (model X.prog X.w) s3.heap (typeOf (.ref a)) cls := fun _ _ _ _ k q => wpAny_typeOf_ref (k _ _ g1) (by rw [z1.1]; exact q)
  have asked := PySem.W.exm_one (M := model X.prog X.w) D.here.kIn TY hy
  refine wpAny_handleBy_cons (codeAny_handlers_test ?_) fun q => by cases q
  have word : ∀ {Q E : Value → Shared → Prop}, Q c s3 → wpAny (model X.prog X.w) (X.A.mark (some (.ref a))) (eval (.Name x p1) X.env) Q E s3 := by
    intro Q E q
    obtain ⟨gl, nb, mine | ⟨other, boot, nn⟩⟩ := nm
    · exact ld_glob I1 gl mine q nb
    · exact ld_blt I1 gl other boot q nn nb
  refine word (asked.here ?_)
  cases yes with
  | false => exact no rfl
  | true =>
    refine codeAny_handlers_suite_as (HandSPX.lands_againZ D.fly fun hp f u => ?_)
    have D2 := D.next f u
    obtain ⟨o2, w2, g2, z2, e2, I2⟩ := D2.inside hf
    refine store_ok (X := X.suite a ((a, o2) :: (X.pn ++ pins))) (v := .ref a) I2 nd at_ (.inl lo) rfl (fun s5 I5 => ?_) (.inr lo)
    refine wpAny_mono ((su a o2 cls d _ z2 ⟨_, e2⟩).run [] s5 _ H _ I5 (ok rfl)) (fun fl s6 h6 => ?_) fun _ _ z => z.elim
    have leave : ∀ {σ6 : L2.St} {H6 : Hp} {R : Shared → Prop}, Inv (X.suite a ((a, o2) :: (X.pn ++ pins))) [] σ6 H6 s6 → (∀ s7, Inv X pins (σ6.set i none) H6 s7 → R s7) →
        wpAny (model X.prog X.w) X.A (do bindName X.env n .none; unbindBehindTheSuite X.env n p2) (fun _ s7 => R s7) X.xe s6 := fun I6 r => gone_ok (I6.unsuite D.inv.ok) nd at_ lo r
    cases fl with
    | ret u =>
      obtain ⟨v6, _, _, I6, r6, q6⟩ := h6
      exact leave I6 fun _ I7 => ⟨v6, _, _, I7, r6, q6⟩
    | next =>
      obtain ⟨_, _, I6, q6⟩ := h6
      exact leave I6 fun _ I7 => ⟨_, _, I7, q6⟩
    | brk =>
      obtain ⟨_, _, I6, q6⟩ := h6
      exact leave I6 fun _ I7 => ⟨_, _, I7, q6⟩
    | cont =>
      obtain ⟨_, _, I6, q6⟩ := h6
      exact leave I6 fun _ I7 => ⟨_, _, I7, q6⟩
/-- no clause took it -/
theorem clause_none {Wo : WX} {Q : Flow → Shared → Prop} (D : Down X pins σ H cls d a B s0 s3) (hs : X.stack = X.env :: X.outer) (hf : X.env.frame = some X.env.locals) (tk : L2N.Takes X Wo) (q : Wo cls d σ H) :
    wpAny (model X.prog X.w) X.A (handleBy (.ref a) X.env []) Q X.xe s3 := by
  obtain ⟨_, _, _, oe, w, T, _, _, g, _, e, t1, _⟩ := id D.fly
  refine wpAny_handleBy_nil ?_
  unfold PySem.passOn
  refine wpAny_bind (wpAny_field g e t1 ?_)
  rw [if_neg (by simp)]
  have out : wpAny (model X.prog X.w) X.A (setFlight (.ref a) X.env.frame) (fun _ s4 => wpAny (model X.prog X.w) X.A (throw (.ref a) : Sem Flow) Q X.xe s4) X.xe s3 := by
    rw [hf]
    refine HandSPX.setFlight_upZ D.fly fun hp held u => wpAny_throw (tk _ _ ⟨a, B, s0, pins, σ, H, cls, d, rfl, D.inv, D.low, D.up.trans u, .inr (.inr (by rw [hs]; exact held)), D.na, D.os, D.gs, q⟩)
  first
    | exact wpAny_bind (wpAny_pure (wpAny_bind out))
    | exact wpAny_bind out
theorem clauses_run {Wo : WX} {E : Ends} (hs : X.stack = X.env :: X.outer) (hf : X.env.frame = some X.env.locals) (nd : X.N.Nodup) (tk : L2N.Takes X Wo) (D : Down X pins σ H cls d a B s0 s3) :
    ∀ {hds : List ExceptHandler} {l : List (Value × Nat × (Addr → Value → Option Addr → TS))}, Clauses X hds l → wNamed X.K Wo E l cls d σ H → wpAny (model X.prog X.w) X.A (handleBy (.ref a) X.env hds) (SP X pins E) X.xe s3 := by
  intro hds l cl
  induction cl with
  | none => exact fun q => clause_none D hs hf tk q
  | more nm at_ lo su tl ih =>
    rintro ⟨yes, hy, no, ok⟩
    exact clause_one D hf nd nm at_ lo su hy (fun n => ih (no n)) fun y => ok y a D.na
end
/-- try: body; except C1 as n: ..; except C2 as n: .. -/
theorem ps_try_named {X : Cx} {body : List Stmt} {h1 : ExceptHandler} {hds : List ExceptHandler} {l : List (Value × Nat × (Addr → Value → Option Addr → TS))} {pos : Pos} {tb : WX → TS} {Wo : WX}
    (hs : X.stack = X.env :: X.outer) (hf : X.env.frame = some X.env.locals) (nd : X.N.Nodup) (tk : L2N.Takes X Wo)
    (hb : ∀ (W : WX) (pn : List (Addr × Obj)) (xe : Value → Shared → Prop), L2N.Takes (X.tr pn xe) W → PassesOwn (model X.prog X.w) X.A X.env xe → PSs (X.tr pn xe) body (tb W))
    (cl : Clauses X (h1 :: hds) l) : PS X (.Try body (h1 :: hds) [] [] pos) (fun E σ H => tb (wNamed X.K Wo E l) E σ H) := by
  refine ⟨fun pins s σ H E I q => wpAny_Try_except (wpAny_mono ((hb _ (X.pn ++ pins) (fun u s1 => wpAny (model X.prog X.w) X.A (noteFrame u X.env) (fun _ s2 => wpAny (model X.prog X.w) X.A (setFlight u none) (fun _ s3 =>
    wpAny (model X.prog X.w) X.A (handleBy u X.env (h1 :: hds)) (SP X pins E) X.xe s3) X.xe s2) X.xe s1) (fun u s1 xx => ?_) PassesOwn.looking).run [] s σ H E (I.toTry _) q) (fun fl s1 h => ?_) fun _ _ z => z)⟩
  · obtain ⟨a, B, s0, pins2, σ1, H1, cls, d, rfl, J, low, up, sky, na, os, gs, w⟩ := xx
    have fr : X.A.frames = some (X.env :: X.outer) := by rw [I.ok.frames, hs]
    show wpAny _ X.A (noteFrame (.ref a) X.env) _ _ _
    refine L2N.Sky.land L2N.Zn.steady fr hf (by rw [← hs]; exact sky) fun hp fly u => ?_
    exact clauses_run hs hf nd tk (s0 := s0) (s3 := { s1 with heap := hp }) ⟨J.ofTry I.ok, low, up.trans u, fly, os, gs, na⟩ cl w
  · cases fl with
    | ret u =>
      obtain ⟨v, _, _, J, r, z⟩ := h
      exact ⟨v, _, _, J.ofTry I.ok, r, z⟩
    | next =>
      obtain ⟨_, _, J, z⟩ := h
      exact wpAny_execs_nil ⟨_, _, J.ofTry I.ok, z⟩
    | brk =>
      obtain ⟨_, _, J, z⟩ := h
      exact ⟨_, _, J.ofTry I.ok, z⟩
    | cont =>
      obtain ⟨_, _, J, z⟩ := h
      exact ⟨_, _, J.ofTry I.ok, z⟩
/-- isinstance(e, C), e the exception at p -/
def rIsP (K : PySem.W.Frag) (p : Addr × Obj) : List V → Hp → VK → Prop := fun xs H Q => ∃ (D : Addr) (d : Option Addr) (c : V) (cv : Value) (b : Bool), xs = [.ref p.1, c] ∧ ExcC K D ∧ Zn (.ref D) d p.2 ∧ (∃ vs, p.2.data = .fields vs) ∧
  (∀ dx, d = some dx → ∃ fs, H dx = some (.xd fs)) ∧ (∀ u, RelV c u → u = cv) ∧ PySem.W.kitOne K (.ref D) cv = some b ∧ Q (.bl b) H
theorem call_isP {X : Cx} {p : Addr × Obj} (hp : p ∈ X.pn) : CallR X (.builtin "isinstance") (rIsP X.K p) := by
  intro pins s σ H xs us Q I r h
  obtain ⟨D, d, c, cv, b, rfl, C, z, ⟨w, e⟩, hd, hc, hk, q⟩ := h
  cases r with
  | cons r1 rr =>
    cases rr with
    | cons r2 rr =>
      cases rr
      cases r1
      have ec := hc _ r2
      subst ec
      obtain ⟨g, _⟩ := I.pin p (List.mem_append.mpr (.inl hp))
      have cl : (PySem.W.clsIn X.K D).isSome = true := by
        obtain ⟨cd, h1, _⟩ := PySem.W.any_some C.hd
        rw [h1]
        rfl
      have J : ∃ od, PySem.W.InstAt s.heap p.1 p.2 D od := by
        cases d with
        | none => exact ⟨none, g, z.1, by unfold PySem.W.notCls; rw [e] <;> rfl, by rw [z.2.1]; trivial⟩
        | some dx =>
          obtain ⟨fs, hx⟩ := hd dx rfl
          obtain ⟨mA, hn, _⟩ : ObjOk X.prog X.w H s.heap dx (.xd fs) := I.hok dx _ hx
          obtain ⟨od, _, _, ho, _⟩ := hn
          exact ⟨some od, g, z.1, by unfold PySem.W.notCls; rw [e] <;> rfl, by rw [z.2.1]; exact ho⟩
      obtain ⟨od, J⟩ := J
      exact PySem.W.kia_one (PySem.W.kitx_exc cl C.hg C.hk C.hs C.ha C.hn C.ht C.hm) I.kIn J hk (fun z => nomatch z) fun tk => ⟨.bl b, H, I.kept (t' := tk) fun _ _ z => z, rfl, q⟩
end Tl

set_option autoImplicit false
set_option maxErrors 4
/-! Defs called within an except suite whose promise speaks of the exception that is handled. -/
namespace Tl
open PySem PySem.Spec PyProof.Rows L2
open L2N (Zn)
/-- the context handles p's object -/
def HotP (X : Cx) (p : Addr × Obj) : Prop := L2H.Hot1 X.A p ∧ p ∈ X.pn
theorem hotP_suite {X : Cx} {a : Addr} {oe : Obj} {cls : Value} {d : Option Addr} {pn : List (Addr × Obj)} (z : Zn cls d oe) (e : ∃ vs, oe.data = .fields vs) : HotP (X.suite a ((a, oe) :: pn)) (a, oe) := by
  obtain ⟨vs, e⟩ := e
  exact ⟨⟨rfl, vs, e, z.2.2 vs e⟩, List.mem_cons_self ..⟩
/-- what such a def promises: sp speaks of the exception, too -/
structure FnHP (P : Program) (w : World) (K : PySem.W.Frag) (mg : Str → Option Value) (base : Heap) (CX : CXT) (k : Nat) (f : Addr) (fd : FuncData) (ps : List Str) (sp : Addr × Obj → Sp) : Prop where
  many : ∀ p vs H Q E, sp p vs H Q E → vs.length = ps.length
  does : ∀ (p : Addr × Obj) (A : Around) (outer : List Env) (s : Shared) (H : Hp) (args : Args) (us : List Value) (vs : List V) (Q : VK) (E : XK), L2H.RoomH k A → L2H.Hot1 A p → L2H.PinOk outer H s p → Env0 P w K mg base A outer s H →
    BindsTo s fd args (ps.zip us) → Vals vs us → sp p vs H Q E → codeAny (model P w) A (.call (.ref f) args) (CR CX outer P w H s Q E) s
section
variable {P : Program} {w : World} {K : PySem.W.Frag} {mg : Str → Option Value} {base : Heap} {CX : CXT}
theorem fn_ofHP {k : Nat} {f : Addr} {name qual : Str} {params : Arguments} {body : List Stmt} {scope : Scope} {dV kV doc pm cdv ct oc : Value} {an od : Option Addr} {osl : Array (Option Value)} {N ps : List Str} {sp : Addr × Obj → Sp}
    (at_ : K.lookup f = some ⟨oc, od, .func (PySem.W.fnOf name qual params body scope dV kV doc pm an cdv ct), osl⟩) (code : PySem.W.codeIn K cdv qual = true) (S : FnScope N ps scope) (many : ∀ p vs H Q E, sp p vs H Q E → vs.length = ps.length)
    (inner : ∀ (p : Addr × Obj) (A : Around) (outer : List Env) (s : Shared) (H : Hp) (vs : List V) (Q : VK) (E : XK), L2H.Hot1 A p → L2H.RoomH k (A.deeper (envOfC qual scope s.heap.objs.size f cdv)) → sp p vs H Q E →
      ∃ t, PSs (L2H.cxH CX P w K mg base N qual scope f cdv A outer s H E p) body t ∧ t { nx := fun _ H' => Q .non H', rt := Q } (L2.start N vs) H) :
    FnHP P w K mg base CX (k + 1) f (PySem.W.fnOf name qual params body scope dV kV doc pm an cdv ct) ps sp := by
  refine ⟨many, fun p A outer s H args us vs Q E room hot pin e0 bd rel h => ?_⟩
  have kin : K.In s.heap := e0.mod.kin.keeps fun _ _ g => (e0.bs _ _ g).1
  have places : ∀ y ∈ ps.zip us, scope.names.lookup y.1 = some .local ∨ (scope.names.lookup y.1 = some .cell ∧ ((cellsFrom (s.heap.objs.size + 1) scope.names []).lookup y.1).isSome = true) := by
    rintro ⟨n, v⟩ hy
    cases S.par n (List.of_mem_zip hy).1 with
    | inl q => exact .inl q
    | inr q => exact .inr ⟨q, PySem.W.cellsFrom_some _ _ _ (.inl q)⟩
  refine codeAny_call_function room.depth (kin _ _ at_) rfl S.co S.gen rfl (PySem.W.codeRec_of kin code) (bd _ _ _ _ (wpAny_newFunctionEnv_cells S.kind places fun env he s1 x => ?_))
  subst he
  refine ⟨e0.mod.nolimit.keeps fun _ _ g => (x.toInCall.keep _ _ (e0.bs _ _ g).1), codeAny_func ?_⟩
  obtain ⟨t, ht, q⟩ := inner p A outer s H vs Q E hot (room.deeper _) h
  have I := L2H.inv_startH (CX := CX) (E := E) S pin e0 (many _ _ _ _ _ h) rel x
  refine wpAny_mono (ht.run [] s1 (L2.start N vs) H _ I q) (fun fl s2 h2 => ?_) fun _ _ z => z
  have done : ∀ {σ2 : L2.St} {H2 : Hp} {v : V} {u : Value}, Inv (L2H.cxH CX P w K mg base N qual scope f cdv A outer s H E p) [] σ2 H2 s2 → RelV v u → Q v H2 → CE outer P w H s Q u s2 :=
    fun J r q => ⟨_, _, J.os, J.bare, J.base, J.hok, r, q⟩
  cases fl with
  | next =>
    obtain ⟨_, _, J, q⟩ := h2
    exact done (v := V.non) (u := Value.none) J rfl q
  | ret u =>
    obtain ⟨_, _, _, J, r, q⟩ := h2
    exact done J r q
  | brk =>
    obtain ⟨_, _, _, q⟩ := h2
    exact q.elim
  | cont =>
    obtain ⟨_, _, _, q⟩ := h2
    exact q.elim
end
section
variable {X : Cx} {CX : CXT} {k : Nat} {f : Addr} {fd : FuncData} {ps : List Str} {sp : Addr × Obj → Sp} {E : L2.St → XK} {x : Str} {q pos : Pos} {e : Expr} {es : List Expr} {t : TA} {p : Addr × Obj}
theorem pe_callHP {sq : Sp} (F : FnHP X.prog X.w X.K X.mg X.base CX k f fd ps sp) (weak : ∀ vs H Q E, sq vs H Q E → sp p vs H Q E) (room : L2H.RoomH k X.A) (hot : HotP X p) (hg : Gl X x) (hm : X.mg x = some (.ref f)) (hk : PySem.W.keepIn X.K (.ref f) = true) (hb : Binds X.K fd ps []) (hx : ∀ σ, PassesAt CX X σ (E σ))
    (ha : PA X (e :: es) t) (hdb : (x == ("__debug__" : Str)) = false := by decide) (he : starEach (e :: es) X.env = (false, eval e X.env) :: starEach es X.env := by rfl) (hpl : (backTo pos (starEach es X.env)).any (·.1) = false := by rfl) :
    PE X (.Call (.Name x q) (e :: es) [] pos) (tCallS sq E t) := by
  refine ⟨fun pins s σ H Q I h => wpAny_Call_Name_kw (ld_glob I hg hm (PySem.W.callWith_K (h₀ := X.base) I.ok.mod.kin hk (thn (ha.run pos pins s σ H _ I h) fun us s1 ⟨vs, H1, I1, r, y⟩ => ⟨I1.kIn, ?_⟩) he hpl) hdb)⟩
  have z := weak _ _ _ _ y
  have n : us.length = ps.length := r.length.symm.trans (F.many _ _ _ _ _ z)
  have b := hb s1 us I1.kIn (by rw [List.append_nil]; exact n)
  rw [List.append_nil] at b
  obtain ⟨g, fr, ne, nf, nc⟩ := I1.pin p (List.mem_append_left _ hot.2)
  have off : p.1 ∉ frs X.stack := fun m => by
    cases List.mem_cons.mp (I1.stkSub p.1 m) with
    | inl y => exact ne y
    | inr y => exact nf y
  refine wpAny_call (codeAny_mono (F.does p X.A X.stack s1 H1 ⟨us, []⟩ us vs Q (E σ) room hot.1 ⟨g, fr, off, nc⟩ I1.env0 b r z) fun res s2 y => ?_)
  cases res with
  | error er => exact hx σ pins H1 s1 er s2 I1 y
  | ok fl =>
    cases fl with
    | ret u => exact I1.after y
    | next => exact y.elim
    | brk => exact y.elim
    | cont => exact y.elim
end
end Tl

set_option autoImplicit false
set_option maxErrors 4
/-! A family of exception classes of the program: what the head reads of them. -/
namespace Tl
open PySem PySem.Spec PyProof.Rows L2
section
variable {K : PySem.W.Frag} {C : Addr}
def excCB (K : PySem.W.Frag) (D : Addr) : Bool := He.eqO (PySem.W.findIn K (.ref D) "__getattribute__") (some (some (.builtin "BaseException.__getattribute__"))) && (He.eqO (PySem.W.findIn K (.ref D) "__getattr__") (some none) &&
  (decide (PySem.W.subIn K (.ref D) (.type "BaseException") = some true) && (PySem.W.hasDictIn K D && (He.eqO (PySem.W.findIn K (.ref D) "__class__") (some (some (.builtin "object.__class__"))) &&
  (He.eqO (PySem.W.specialIn K (.builtin "object.__class__") "__get__") (some (some (.builtin "getset_descriptor.__get__"))) && (decide (PySem.W.takesIn K (.builtin "object.__class__") = some true) && decide (PySem.W.mroIn K D (.type "object") = some true)))))))
theorem excCB_ok (h : excCB K C = true) : ExcC K C := by
  obtain ⟨a1, h⟩ := He.ba h
  obtain ⟨a2, h⟩ := He.ba h
  obtain ⟨a3, h⟩ := He.ba h
  obtain ⟨a4, h⟩ := He.ba h
  obtain ⟨a5, h⟩ := He.ba h
  obtain ⟨a6, h⟩ := He.ba h
  obtain ⟨a7, h⟩ := He.ba h
  exact ⟨He.eqO_ok a1, He.eqO_ok a2, of_decide_eq_true a3, a4, He.eqO_ok a5, He.eqO_ok a6, of_decide_eq_true a7, of_decide_eq_true h⟩
/-- the class object of an exception class with an own __init__ -/
def oexO (C : Addr) : Option Obj → Bool
  | some ⟨.type "type", _, .cls cd, sl⟩ => (match cd.mro, sl.toList with
    | .ref D :: bm, [_, _, _, _, some (.builtin n), _] => decide (D = C) && (decide (n = "ValueError.__new__") && (!cd.hasDel && (cd.hasDict && PySem.HandSPX.refsVE bm)))
    | _, _ => false)
  | _ => false
theorem oexO_ok {r : Option Obj} (h : oexO C r = true) : ∃ nm q N bs bm sn sub ab col dd k0 k1 k2 k3 k5, r = some (excClassObj nm q C N bs bm true sn sub ab col dd k0 k1 k2 k3 k5 "ValueError.__new__") ∧ PySem.HandSPX.refsVE bm = true := by
  unfold oexO at h
  split at h
  · rename_i dd cd sl
    split at h
    · rename_i D bm k0 k1 k2 k3 n k5 hm hs
      obtain ⟨e1, h1⟩ := He.ba h
      obtain ⟨e2, h2⟩ := He.ba h1
      obtain ⟨e3, h3⟩ := He.ba h2
      obtain ⟨e4, h4⟩ := He.ba h3
      have e1 := of_decide_eq_true e1
      have e2 := of_decide_eq_true e2
      subst e1 e2
      obtain ⟨nm, bs, mro, ns, qn, hd, sn, sub, ab, col, de⟩ := cd
      dsimp only at hm e3 e4
      have e3 : de = false := by simpa using e3
      subst hm e3 e4
      have es : sl = #[k0, k1, k2, k3, some (.builtin "ValueError.__new__"), k5] := by
        obtain ⟨l⟩ := sl
        simp only at hs
        rw [hs]
      subst es
      exact ⟨nm, qn, ns, bs, bm, sn, sub, ab, col, dd, k0, k1, k2, k3, k5, rfl, h4⟩
    · cases h
  · cases h
def oexB (K : PySem.W.Frag) (C : Addr) : Bool := oexO C (K.lookup C) && (He.eqO (PySem.W.findIn K (.ref C) "__setattr__") (some (some (.builtin "object.__setattr__"))) && (decide (PySem.W.subIn K (.ref C) (.type "BaseException") = some true) &&
  (decide (PySem.W.typeIn K (.ref C) = some (.type "type")) && PySem.W.keepIn K (.ref C))))
theorem oexB_ok (h : oexB K C = true) : OexC K C := by
  obtain ⟨a1, h⟩ := He.ba h
  obtain ⟨a2, h⟩ := He.ba h
  obtain ⟨a3, h⟩ := He.ba h
  obtain ⟨a4, h⟩ := He.ba h
  obtain ⟨nm, q, N, bs, bm, sn, sub, ab, col, dd, k0, k1, k2, k3, k5, e, r⟩ := oexO_ok a1
  exact ⟨⟨nm, q, N, bs, bm, sn, sub, ab, col, dd, k0, k1, k2, k3, k5, e, r⟩, He.eqO_ok a2, of_decide_eq_true a3, of_decide_eq_true a4, h⟩
end
/-- the address of the i-th name -/
def cA (K : PySem.W.Frag) (cn : List Str) (i : Nat) : Addr := He.ga K (cn.getD i "")
def pairB (K : PySem.W.Frag) (cn : List Str) : Bool := (List.range cn.length).all fun i => (List.range cn.length).all fun j =>
  decide (PySem.W.kitOne K (.ref (cA K cn i)) (.ref (cA K cn j)) = some (decide (i = j))) && decide (PySem.W.exmOne K (.ref (cA K cn i)) (.ref (cA K cn j)) = some (decide (i = j)))
def eachB (K : PySem.W.Frag) (cn : List Str) : Bool := (List.range cn.length).all fun i => excCB K (cA K cn i) && (decide (PySem.W.exmOne K (.ref (cA K cn i)) (.ref (He.ga K "TownError")) = some true) && decide (PySem.W.kitOne K (.ref (cA K cn i)) (.type "ValueError") = some true))
def ownB (K : PySem.W.Frag) (cn : List Str) (n : Nat) : Bool := (List.range cn.length).all fun i => decide (i < n) || (oexB K (cA K cn i) && xfB K (cA K cn i))
def townB (K : PySem.W.Frag) (cn : List Str) (n : Nat) : Bool := eachB K cn && (pairB K cn && ownB K cn n)
structure Town (K : PySem.W.Frag) (cn : List Str) (n : Nat) : Prop where
  exc : ∀ i, i < cn.length → ExcC K (cA K cn i)
  base : ∀ i, i < cn.length → PySem.W.exmOne K (.ref (cA K cn i)) (.ref (He.ga K "TownError")) = some true
  ve : ∀ i, i < cn.length → PySem.W.kitOne K (.ref (cA K cn i)) (.type "ValueError") = some true
  is : ∀ i j, i < cn.length → j < cn.length → PySem.W.kitOne K (.ref (cA K cn i)) (.ref (cA K cn j)) = some (decide (i = j))
  ca : ∀ i j, i < cn.length → j < cn.length → PySem.W.exmOne K (.ref (cA K cn i)) (.ref (cA K cn j)) = some (decide (i = j))
  own : ∀ i, n ≤ i → i < cn.length → OexC K (cA K cn i)
  fld : ∀ i, n ≤ i → i < cn.length → XfC K (cA K cn i)
theorem townB_ok {K : PySem.W.Frag} {cn : List Str} {n : Nat} (h : townB K cn n = true) : Town K cn n := by
  obtain ⟨e, h⟩ := He.ba h
  obtain ⟨p, o⟩ := He.ba h
  have e1 := fun i (hi : i < cn.length) => He.ba (List.all_eq_true.mp e i (List.mem_range.mpr hi))
  have p1 := fun i j (hi : i < cn.length) (hj : j < cn.length) => He.ba (List.all_eq_true.mp (List.all_eq_true.mp p i (List.mem_range.mpr hi)) j (List.mem_range.mpr hj))
  have o1 : ∀ i, n ≤ i → i < cn.length → oexB K (cA K cn i) = true ∧ xfB K (cA K cn i) = true := fun i hn hi => by
    have z := List.all_eq_true.mp o i (List.mem_range.mpr hi)
    rw [Bool.or_eq_true, decide_eq_true_eq] at z
    exact z.elim (fun y => absurd y (Nat.not_lt.mpr hn)) He.ba
  exact ⟨fun i hi => excCB_ok (e1 i hi).1, fun i hi => of_decide_eq_true (He.ba (e1 i hi).2).1, fun i hi => of_decide_eq_true (He.ba (e1 i hi).2).2, fun i j hi hj => of_decide_eq_true (p1 i j hi hj).1, fun i j hi hj => of_decide_eq_true (p1 i j hi hj).2,
    fun i hn hi => oexB_ok (o1 i hn hi).1, fun i hn hi => xfB_ok (o1 i hn hi).2⟩
end Tl

set_option autoImplicit false
set_option maxErrors 4
/-! What the head reads of two own classes and two errors. -/
namespace Tl
open PySem PySem.Spec PyProof.Rows L2
section
variable {K : PySem.W.Frag} {S D A B T : Addr}
/-- isinstance reads the class of an instance -/
structure Sees (K : PySem.W.Frag) (S : Addr) : Prop where
  c1 : PySem.W.findIn K (.ref S) "__class__" = some (some (.builtin "object.__class__"))
  c2 : PySem.W.specialIn K (.builtin "object.__class__") "__get__" = some (some (.builtin "getset_descriptor.__get__"))
  c3 : PySem.W.takesIn K (.builtin "object.__class__") = some true
  c4 : PySem.W.mroIn K S (.type "object") = some true
def seesB (K : PySem.W.Frag) (S : Addr) : Bool := (He.eqO (PySem.W.findIn K (.ref S) "__class__") (some (some (.builtin "object.__class__"))) && He.eqO (PySem.W.specialIn K (.builtin "object.__class__") "__get__") (some (some (.builtin "getset_descriptor.__get__")))) &&
  (decide (PySem.W.takesIn K (.builtin "object.__class__") = some true) && decide (PySem.W.mroIn K S (.type "object") = some true))
theorem seesB_ok (h : seesB K S = true) : Sees K S := by
  obtain ⟨a, b⟩ := He.ba h
  obtain ⟨a1, a2⟩ := He.ba a
  obtain ⟨b1, b2⟩ := He.ba b
  exact ⟨He.eqO_ok a1, He.eqO_ok a2, of_decide_eq_true b1, of_decide_eq_true b2⟩
theorem Sees.ty {H : Hp} {a dx : Addr} {fs : List (Str × V)} (s : Sees K S) (c : Cls K S) (e : H a = some (.ins S dx fs)) : TyX K H (.ref a) (.ref S) := .base (.ins e c s.c1 s.c2 s.c3 s.c4)
/-- no built-in value is an S; an S is none of these; a D is no S and no text -/
structure Apart (K : PySem.W.Frag) (S D : Addr) : Prop where
  no : ∀ t ∈ ["NoneType", "bool", "int", "str", "list", "tuple", "dict"], PySem.W.kitOne K (.type t) (.ref S) = some false
  own : PySem.W.kitOne K (.ref S) (.ref S) = some true
  off : ∀ t ∈ ["str", "list", "tuple", "int", "bool"], PySem.W.kitOne K (.ref S) (.type t) = some false
  dS : PySem.W.kitOne K (.ref D) (.ref S) = some false
  dOff : ∀ t ∈ ["str", "list", "tuple", "int", "bool"], PySem.W.kitOne K (.ref D) (.type t) = some false
def apartB (K : PySem.W.Frag) (S D : Addr) : Bool := ((["NoneType", "bool", "int", "str", "list", "tuple", "dict"].all fun t => decide (PySem.W.kitOne K (.type t) (.ref S) = some false)) && decide (PySem.W.kitOne K (.ref S) (.ref S) = some true)) &&
  ((["str", "list", "tuple", "int", "bool"].all fun t => decide (PySem.W.kitOne K (.ref S) (.type t) = some false)) && (decide (PySem.W.kitOne K (.ref D) (.ref S) = some false) && (["str", "list", "tuple", "int", "bool"].all fun t => decide (PySem.W.kitOne K (.ref D) (.type t) = some false))))
theorem apartB_ok (h : apartB K S D = true) : Apart K S D := by
  obtain ⟨a, b⟩ := He.ba h
  obtain ⟨a1, a2⟩ := He.ba a
  obtain ⟨b1, b⟩ := He.ba b
  obtain ⟨b2, b3⟩ := He.ba b
  exact ⟨fun t ht => of_decide_eq_true (List.all_eq_true.mp a1 t ht), of_decide_eq_true a2, fun t ht => of_decide_eq_true (List.all_eq_true.mp b1 t ht), of_decide_eq_true b2, fun t ht => of_decide_eq_true (List.all_eq_true.mp b3 t ht)⟩
/-- two errors under T: A without an __init__, B with one -/
structure Errs (K : PySem.W.Frag) (A B T : Addr) : Prop where
  eA : ExcC K A
  eB : ExcC K B
  mA : PySem.W.exmOne K (.ref A) (.ref A) = some true
  mB : PySem.W.exmOne K (.ref B) (.ref B) = some true
  tA : PySem.W.kitOne K (.ref A) (.ref T) = some true
  vA : PySem.W.kitOne K (.ref A) (.type "ValueError") = some true
  oB : OexC K B
  xB : XfC K B
def errsB (K : PySem.W.Frag) (A B T : Addr) : Bool := ((excCB K A && excCB K B) && (decide (PySem.W.exmOne K (.ref A) (.ref A) = some true) && decide (PySem.W.exmOne K (.ref B) (.ref B) = some true))) &&
  ((decide (PySem.W.kitOne K (.ref A) (.ref T) = some true) && decide (PySem.W.kitOne K (.ref A) (.type "ValueError") = some true)) && (oexB K B && xfB K B))
theorem errsB_ok (h : errsB K A B T = true) : Errs K A B T := by
  obtain ⟨a, b⟩ := He.ba h
  obtain ⟨a1, a2⟩ := He.ba a
  obtain ⟨b1, b2⟩ := He.ba b
  obtain ⟨c1, c2⟩ := He.ba a1
  obtain ⟨c3, c4⟩ := He.ba a2
  obtain ⟨c5, c6⟩ := He.ba b1
  obtain ⟨c7, c8⟩ := He.ba b2
  exact ⟨excCB_ok c1, excCB_ok c2, of_decide_eq_true c3, of_decide_eq_true c4, of_decide_eq_true c5, of_decide_eq_true c6, oexB_ok c7, xfB_ok c8⟩
end
end Tl

set_option autoImplicit false
set_option maxErrors 4
/-! a op b of one own class that may raise; a == xs; a def held in a local name; for x in xs, xs a list or a tuple. -/
namespace Tl
open PySem PySem.Spec PyProof.Rows L2
section
variable {X : Cx} {CX : CXT} {k : Nat} {C f : Addr} {fd : FuncData} {ps : List Str} {sp : Sp} {E : L2.St → XK}
def rBinE (C : Addr) (sp : Sp) (E : L2.St → XK) : L2.St → R2 := fun τ x y H Q => ∃ a dx fs b dy gs, x = .ref a ∧ y = .ref b ∧ H a = some (.ins C dx fs) ∧ H b = some (.ins C dy gs) ∧ sp [.ref a, .ref b] H Q (E τ)
theorem op_binE {op : Operator} (hc : PySem.W.selfFirst X.K C = true) (M : OpC X.K C (PySem.dunder op.info.2) f) (F : FnOk X.prog X.w X.K X.mg X.base CX k f fd ps sp) (hr : Room k X.A) (hb : Binds X.K fd ps []) (out : ∀ τ, PassesAt CX X τ (E τ)) :
    OpS X (binaryOp op) (rBinE C sp E) := by
  intro pn t τ G x y va vb W I rx ry h
  obtain ⟨a, dx, fs, b, dy, gs, rfl, rfl, ha, hb2, q⟩ := h
  cases rx
  cases ry
  obtain ⟨oa, da, Ja⟩ := inst_of I ha
  obtain ⟨ob, db, Jb⟩ := inst_of I hb2
  obtain ⟨mm, Fm⟩ := I.fr
  have one := run_opS F hr hb (out τ) I (.cons (relRef _) (.cons (relRef _) .nil)) q
  exact PySem.W.binop_K Fm I.mod.kin Ja Jb.type hc M.at_ M.fn (wpAny_mono one (fun _ _ z => back_ok z) fun _ _ z => z)
/-- a == xs, xs a list -/
def rEqXs (C : Addr) (sp : Sp) : R2 := fun x y H Q => ∃ a dx fs b xs, x = .ref a ∧ y = .ref b ∧ H a = some (.ins C dx fs) ∧ H b = some (.lst xs) ∧ sp [.ref a, .ref b] H Q E0
theorem op_eqXs (nf : PySem.W.notFirst X.K C (.type "list") = true) (M : OpC X.K C "__eq__" f) (F : FnOk X.prog X.w X.K X.mg X.base CX k f fd ps sp) (hr : Room k X.A) (hb : Binds X.K fd ps []) (hx : Passes CX X E0) : OpR X (compareOp .Eq) (rEqXs C sp) := by
  intro pn t τ G x y va vb W I rx ry h
  obtain ⟨a, dx, fs, b, xs, rfl, rfl, ha, hb2, q⟩ := h
  have look := (Pl.lst hb2).looks I ry
  cases rx
  cases ry
  obtain ⟨oa, da, Ja⟩ := inst_of I ha
  obtain ⟨mm, Fm⟩ := I.fr
  have one := run_op F hr hb hx I (.cons (relRef _) (.cons (relRef b) .nil)) q
  exact PySem.W.cmp_K (op := .Eq) (Nat.lt_of_succ_lt (hu_of hr)) Fm I.mod.kin Ja look nf M.at_ M.fn (wpAny_mono one (fun _ _ z => back_ok z) fun _ _ z => z)
end
section
variable {X : Cx} {CX : CXT} {j i : Nat} {E : L2.St → XK} {x : Str} {e : Expr} {es : List Expr} {t : TA} {p pos : Pos}
/-- the def is told by the reading -/
def tHeld (P : Program) (w : World) (K : PySem.W.Frag) (mg : Str → Option Value) (base : Heap) (CX : CXT) (j i : Nat) (E : L2.St → XK) (t : TA) : TE := fun σ H Q => ∃ f : Addr, σ[i]? = some (some (.ref f)) ∧ PySem.W.keepIn K (.ref f) = true ∧
  t σ H fun vs H1 => ∃ (fd : FuncData) (ps : List Str) (k : Nat) (sp : Sp), k ≤ j ∧ FnOk P w K mg base CX k f fd ps sp ∧ Binds K fd ps [] ∧ sp vs H1 Q (E σ)
theorem pe_held (hr : Room j X.A) (out : ∀ σ, PassesAt CX X σ (E σ)) (hN : X.N[i]? = some x) (hv : Vis X.env.scope x) (ha : PA X (e :: es) t) (hd : (x == ("__debug__" : Str)) = false := by decide) (hcd : (x == ("__classdict__" : Str)) = false := by decide)
    (he : starEach (e :: es) X.env = (false, eval e X.env) :: starEach es X.env := by rfl) (hpl : (backTo pos (starEach es X.env)).any (·.1) = false := by rfl) :
    PE X (.Call (.Name x p) (e :: es) [] pos) (tHeld X.prog X.w X.K X.mg X.base CX j i E t) := by
  refine ⟨fun pins s σ H Q I h => ?_⟩
  obtain ⟨f, hs, kp, h⟩ := h
  refine wpAny_Call_Name_kw (thn ((pe_var (pos := p) (i := i) hN hv hd hcd).run pins s σ H (fun v H1 => v = .ref f ∧ H1 = H) I ⟨.ref f, hs, rfl, rfl⟩) fun u s1 z => ?_)
  obtain ⟨v, H1, I1, r1, ev, eH⟩ := z
  subst ev eH
  cases r1
  refine PySem.W.callWith_K (h₀ := X.base) I.ok.mod.kin kp (thn (ha.run pos pins s1 σ _ _ I1 h) fun us s2 z => ?_) he hpl
  obtain ⟨vs, H2, I2, r, fd, ps, k, sp, hk, F, b, q⟩ := z
  exact ⟨I2.kIn, run_opS F (hr.mono hk) b (out σ) I2 r q⟩
/-- what a list or a tuple gives -/
def iSeq (K : PySem.W.Frag) (tl : TE) : TI := fun σ H R => tl σ H fun x H1 => ∃ a, x = .ref a ∧ (((∃ xs, SqL K H1 a xs) ∧ R (Itl K a) H1) ∨ ((∃ xs, SqT K H1 a xs) ∧ R (Itt K a) H1))
theorem pi_seq {tg l : Expr} {tl : TE} (hl : PE X l tl) : PI X tg l (iSeq X.K tl) := by
  refine ⟨fun pn t τ G R I h => thn (hl.run pn t τ G _ I h) fun v t1 z => ?_⟩
  obtain ⟨y, G1, I1, ry, a, rfl, z⟩ := z
  cases ry
  have one : ∀ b, b = t1.heap.objs.size → FpOk X pn G1 b := fun b e => by
    subst e
    exact I1.fpOk (Nat.le_refl _) (I1.hok.fresh (Nat.le_refl _))
  rcases z with ⟨⟨xs, sq⟩, r⟩ | ⟨⟨xs, sq⟩, r⟩
  · obtain ⟨its, rv, p, _⟩ := I1.list sq
    exact wpAny_pyIter_list p.isList ⟨t1.heap.objs.size, [t1.heap.objs.size], _, _, G1, rfl, I1.kept (t' := t1.toks) fun b o e => Heap.get?_push_of_some _ e, turn_list a _, ⟨_, Heap.get?_push_size _ rfl, rfl, rfl⟩, fun b hb => one b (by simpa using hb), r⟩
  · obtain ⟨its, rv, p, _⟩ := I1.tuple sq
    exact wpAny_pyIter_tuple (show t1.heap.IsTuple a its.toArray from p) ⟨t1.heap.objs.size, [t1.heap.objs.size], _, _, G1, rfl, I1.kept (t' := t1.toks) fun b o e => Heap.get?_push_of_some _ e, turn_tuple a _, ⟨_, Heap.get?_push_size _ rfl, rfl, rfl⟩, fun b hb => one b (by simpa using hb), r⟩
end
end Tl

set_option autoImplicit false
set_option maxErrors 4
/-! a | b, a & b, a - b, one operand an instance of an own class C that has the operator and its reflected one, the other of any other type. -/
namespace Tl
open PySem PySem.Spec PyProof.Rows L2
/-- a value with its type: a built-in one or an own class -/
inductive Fo (H : Hp) : V → Value → Prop
  | non : Fo H .non (.type "NoneType")
  | bl (b : Bool) : Fo H (.bl b) (.type "bool")
  | int (n : Int) : Fo H (.int n) (.type "int")
  | str (z : Str) : Fo H (.str z) (.type "str")
  | lst {a : Addr} {xs : List V} : H a = some (.lst xs) → Fo H (.ref a) (.type "list")
  | tup {a : Addr} {xs : List V} : H a = some (.tup xs) → Fo H (.ref a) (.type "tuple")
  | dct {a : Addr} {kvs : List (Key × V)} : H a = some (.dK kvs) → Fo H (.ref a) (.type "dict")
  | ins {a D dx : Addr} {fs : List (Str × V)} : H a = some (.ins D dx fs) → Fo H (.ref a) (.ref D)
theorem Fo.same {H H' : Hp} {x : V} {t : Value} (h : Fo H x t) (s : ∀ b o, H b = some o → H' b = some o) : Fo H' x t := by
  cases h with
  | non => exact .non
  | bl b => exact .bl b
  | int n => exact .int n
  | str z => exact .str z
  | lst e => exact .lst (s _ _ e)
  | tup e => exact .tup (s _ _ e)
  | dct e => exact .dct (s _ _ e)
  | ins e => exact .ins (s _ _ e)
theorem Fo.looks {X : Cx} {pn : List (Addr × Obj)} {τ : L2.St} {H : Hp} {t : Shared} {x : V} {u tv : Value} (p : Fo H x tv) (I : Inv X pn τ H t) (r : RelV x u) : PySem.W.Looks (model X.prog X.w) t.heap (typeOf u) tv := by
  cases p with
  | non =>
    cases r
    exact PySem.W.Looks.of_pure rfl
  | bl b =>
    cases r
    exact PySem.W.Looks.of_pure rfl
  | int n =>
    obtain ⟨k, rfl⟩ := r
    exact PySem.W.Looks.of_pure rfl
  | str z =>
    obtain ⟨k, rfl⟩ := r
    exact PySem.W.Looks.of_pure rfl
  | @lst a xs e =>
    cases r
    obtain ⟨_, its, n, _, g⟩ := (show ObjOk X.prog X.w H t.heap a (.lst xs) from I.hok a _ e)
    intro _ _ _ _ keep q
    exact wpAny_typeOf_ref (keep _ _ g) q
  | @tup a xs e =>
    cases r
    obtain ⟨_, its, _, ob, g, c⟩ := (show ObjOk X.prog X.w H t.heap a (.tup xs) from I.hok a _ e)
    intro _ _ _ _ keep q
    exact wpAny_typeOf_ref (keep _ _ g) (by rw [c.1]; exact q)
  | @dct a kvs e =>
    cases r
    obtain ⟨_, _, vs, _, ob, es, ep, g, c, _⟩ := (show ObjOk X.prog X.w H t.heap a (.dK kvs) from I.hok a _ e)
    intro _ _ _ _ keep q
    exact wpAny_typeOf_ref (keep _ _ g) (by rw [c.1]; exact q)
  | @ins a D dx fs e =>
    cases r
    obtain ⟨ox, od, J⟩ := inst_of I e
    exact J.type
section
variable {prog : Program} {w : World} {M : Model} {A : Around} {E' : Value → Shared → Prop} {s : Shared} {K : PySem.W.Frag} {x C D f g L : Addr} {h₀ : Heap} {m : Str → Option Value} {ox : Obj} {od : Option Obj} {tb : Value} {op : Operator} {b : Value} {Q : Value → Shared → Prop}
/-- a class right under object without the operator has no slot -/
theorem fills_no {nm : String} {h : Heap} {cd : PySem.ClassData} (X : K.In h) (hc : PySem.W.clsIn K D = some cd) (hm : cd.mro = [.ref D, .type "object"])
    (h1 : PySem.W.findIn K (.ref D) (PySem.dunder nm) = some none) (h2 : PySem.W.findIn K (.ref D) (dunderR nm) = some none)
    (h3 : PySem.W.findIn K (.type "object") (PySem.dunder nm) = some none) (h4 : PySem.W.findIn K (.type "object") (dunderR nm) = some none) : PySem.W.Looks M h (fillsNumberSlot (.ref D) nm) false := by
  intro A Q E s k q
  have Lm : PySem.W.Looks M h (mroOf (.ref D)) cd.mro := (PySem.W.looks_clsIn X hc).andThen (f := fun cd => pure cd.mro) .now
  have Lm' := Lm.keeps k
  obtain ⟨hh, gg, d, tt, os⟩ := s
  have X' : K.In hh := X.keeps k
  have L1 : PySem.W.Looks M hh (typeLookup (.ref D) (PySem.dunder nm)) none := PySem.W.looks_findIn X' h1
  have L2 : PySem.W.Looks M hh (typeLookup (.ref D) (dunderR nm)) none := PySem.W.looks_findIn X' h2
  have L3 : PySem.W.Looks M hh (typeLookup (.type "object") (PySem.dunder nm)) none := PySem.W.looks_findIn X' h3
  have L4 : PySem.W.Looks M hh (typeLookup (.type "object") (dunderR nm)) none := PySem.W.looks_findIn X' h4
  unfold fillsNumberSlot
  refine wpAny_bind (Lm'.at ?_)
  rw [hm, List.anyM_cons]
  refine wpAny_bind ?_
  simp only [List.anyM_cons, List.anyM_nil]
  ksp_lk
  exact q
/-- the left operand an instance, the right one of a type without the slot -/
theorem binF (F : Fr h₀ L s.heap m) (X₀ : K.In h₀) (J : PySem.W.InstAt s.heap x ox C od) (hb : PySem.W.Looks (model prog w) s.heap (typeOf b) tb) (unlike : (Value.ref C == tb) = false) (hc : PySem.W.selfFirst K C = true)
    (hs : PySem.W.findIn K (.ref C) (PySem.dunder op.info.2) = some (some (.ref f))) (hf : PySem.W.isFn K (.ref f) = true) (no : PySem.W.Looks (model prog w) s.heap (fillsNumberSlot tb op.info.2) false)
    (h : wpAny (model prog w) A (call (.ref f) [.ref x, b]) (PySem.W.CmpBack Q) E' s) : wpAny (model prog w) A (binaryOp op (.ref x) b) Q E' s := by
  have Xk := X₀.keeps F.keep
  obtain ⟨cd, rest, hcd, hm⟩ := PySem.W.ksp_first hc
  rcases hi : op.info with ⟨sym, nm'⟩
  rw [hi] at hs no
  dsimp only at hs no
  have tried := PySem.W.ksp_try Xk J hs hf h
  obtain ⟨hh, gg, d, tt, os⟩ := s
  have A1 : PySem.W.Looks (model prog w) hh (typeOf (.ref x)) (.ref C) := J.type
  have A2 : PySem.W.Looks (model prog w) hh (typeOf b) tb := hb
  have A3 : PySem.W.Looks (model prog w) hh (fillsNumberSlot (.ref C) nm') true := PySem.W.fills_K Xk hcd hm hs
  have A4 : PySem.W.Looks (model prog w) hh (fillsNumberSlot tb nm') false := no
  simp only [binaryOp, hi]
  refine wpAny_holding (wpAny_bind ?_)
  unfold binaryOp1
  refine wpAny_bind (A1.at (wpAny_bind (A2.at (wpAny_bind (A3.at ?_)))))
  simp only [unlike, Bool.false_eq_true, if_false]
  ksp_lk
  refine wpAny_mono tried (fun r s' z => ?_) fun _ _ e => e
  obtain ⟨v, rfl, q⟩ := z
  ksp_lk
  exact q
/-- the right operand an instance, the left one of a type without the slot -/
theorem binG (F : Fr h₀ L s.heap m) (X₀ : K.In h₀) (J : PySem.W.InstAt s.heap x ox C od) (hb : PySem.W.Looks (model prog w) s.heap (typeOf b) tb) (unlike : (tb == Value.ref C) = false) (hc : PySem.W.selfFirst K C = true)
    (hs : PySem.W.findIn K (.ref C) (PySem.dunder op.info.2) = some (some (.ref f))) (hg : PySem.W.findIn K (.ref C) (dunderR op.info.2) = some (some (.ref g))) (hf : PySem.W.isFn K (.ref g) = true) (no : PySem.W.Looks (model prog w) s.heap (fillsNumberSlot tb op.info.2) false)
    (h : wpAny (model prog w) A (call (.ref g) [.ref x, b]) (PySem.W.CmpBack Q) E' s) : wpAny (model prog w) A (binaryOp op b (.ref x)) Q E' s := by
  have Xk := X₀.keeps F.keep
  obtain ⟨cd, rest, hcd, hm⟩ := PySem.W.ksp_first hc
  rcases hi : op.info with ⟨sym, nm'⟩
  rw [hi] at hs hg no
  dsimp only at hs hg no
  have tried := PySem.W.ksp_try Xk J hg hf h
  obtain ⟨hh, gg, d, tt, os⟩ := s
  have A1 : PySem.W.Looks (model prog w) hh (typeOf b) tb := hb
  have A2 : PySem.W.Looks (model prog w) hh (typeOf (.ref x)) (.ref C) := J.type
  have A3 : PySem.W.Looks (model prog w) hh (fillsNumberSlot (.ref C) nm') true := PySem.W.fills_K Xk hcd hm hs
  have A4 : PySem.W.Looks (model prog w) hh (fillsNumberSlot tb nm') false := no
  simp only [binaryOp, hi]
  refine wpAny_holding (wpAny_bind ?_)
  unfold binaryOp1
  refine wpAny_bind (A1.at (wpAny_bind (A2.at (wpAny_bind (A4.at ?_)))))
  simp only [unlike, Bool.false_eq_true, if_false]
  ksp_lk
  refine wpAny_mono tried (fun r s' z => ?_) fun _ _ e => e
  obtain ⟨v, rfl, q⟩ := z
  ksp_lk
  exact q
end
/-! ### the built-in methods that decline -/
theorem sub_no (n : Int) (k : Tok) (p C dx : Addr) : Meets (Builtin.«int.__sub__» ⟨[.int n k, .ref p], []⟩) (fun _ R t => t.heap.get? p = some (PySem.W.instObj C dx) ∧ R (.ok (.ret Value.notImplemented)) t) := by
  refine .of_wp fun prog w A R t z => ?_
  obtain ⟨hp, gg, dd, tk, os⟩ := t
  obtain ⟨g, z⟩ := z
  wp_walk
  exact ⟨_, rfl, z⟩
theorem sub_noB (n : Bool) (p C dx : Addr) : Meets (Builtin.«int.__sub__» ⟨[.bool n, .ref p], []⟩) (fun _ R t => t.heap.get? p = some (PySem.W.instObj C dx) ∧ R (.ok (.ret Value.notImplemented)) t) := by
  refine .of_wp fun prog w A R t z => ?_
  obtain ⟨hp, gg, dd, tk, os⟩ := t
  obtain ⟨g, z⟩ := z
  wp_walk
  exact ⟨_, rfl, z⟩
theorem and_no (n : Int) (k : Tok) (p C dx : Addr) : Meets (Builtin.«int.__and__» ⟨[.int n k, .ref p], []⟩) (fun _ R t => t.heap.get? p = some (PySem.W.instObj C dx) ∧ R (.ok (.ret Value.notImplemented)) t) := by
  refine .of_wp fun prog w A R t z => ?_
  obtain ⟨hp, gg, dd, tk, os⟩ := t
  obtain ⟨g, z⟩ := z
  wp_walk
  exact ⟨_, rfl, z⟩
theorem and_noB (n : Bool) (p C dx : Addr) : Meets (Builtin.«bool.__and__» ⟨[.bool n, .ref p], []⟩) (fun _ R t => t.heap.get? p = some (PySem.W.instObj C dx) ∧ R (.ok (.ret Value.notImplemented)) t) := by
  refine .of_wp fun prog w A R t z => ?_
  obtain ⟨hp, gg, dd, tk, os⟩ := t
  obtain ⟨g, z⟩ := z
  wp_walk
  exact ⟨_, rfl, z⟩
theorem or_no (n : Int) (k : Tok) (p C dx : Addr) : Meets (Builtin.«int.__or__» ⟨[.int n k, .ref p], []⟩) (fun _ R t => t.heap.get? p = some (PySem.W.instObj C dx) ∧ R (.ok (.ret Value.notImplemented)) t) := by
  refine .of_wp fun prog w A R t z => ?_
  obtain ⟨hp, gg, dd, tk, os⟩ := t
  obtain ⟨g, z⟩ := z
  wp_walk
  exact ⟨_, rfl, z⟩
theorem or_noB (n : Bool) (p C dx : Addr) : Meets (Builtin.«bool.__or__» ⟨[.bool n, .ref p], []⟩) (fun _ R t => t.heap.get? p = some (PySem.W.instObj C dx) ∧ R (.ok (.ret Value.notImplemented)) t) := by
  refine .of_wp fun prog w A R t z => ?_
  obtain ⟨hp, gg, dd, tk, os⟩ := t
  obtain ⟨g, z⟩ := z
  wp_walk
  exact ⟨_, rfl, z⟩
theorem or_noD {prog : Program} {w : World} (d p : Addr) : MeetsIn prog w (Builtin.«dict.__or__» ⟨[.ref d, .ref p], []⟩) (fun _ R t => (∃ o : Obj, t.heap.get? d = some o ∧ o.cls = .type "dict") ∧ (∃ C, PySem.W.Looks (model prog w) t.heap (typeOf (.ref p)) C ∧ PySem.W.Looks (model prog w) t.heap (isSubtype C (.type "dict")) false) ∧ R (.ok (.ret Value.notImplemented)) t) := by
  intro A R t z
  obtain ⟨hp, gg, dd, tk, os⟩ := t
  obtain ⟨⟨o, g, c⟩, ⟨C, l1, l2⟩, z⟩ := z
  have B1 : PySem.W.Looks (model prog w) hp (isInstance (.ref d) (.type "dict")) true := fun A Q E s k q => wpAny_isInstance (T := "dict") ⟨o, k _ _ g, c⟩ (by rw [isSubtype_type]; kernel_rfl) q
  have B2 : PySem.W.Looks (model prog w) hp (isInstance (.ref p) (.type "dict")) false := l1.andThen l2
  have args : Builtin.Dict.dictSlotArgs "__or__" ⟨[.ref d, .ref p], []⟩ = pure (.ref d, .ref p) := by rfl
  show wpAny _ _ (Builtin.«dict.__or__» _) _ _ _
  unfold Builtin.«dict.__or__»
  rw [args]
  refine wpAny_bind (wpAny_pure ?_)
  dsimp only
  refine wpAny_bind ?_
  refine wpAny_bind (B1.here ?_)
  show wpAny _ _ (isInstance (.ref p) (.type "dict")) _ _ _
  refine B2.here ?_
  wp_walk
  exact z
/-! ### what the head says -/
/-- some own classes side by side -/
structure Fam (K : PySem.W.Frag) (Cs : List Addr) : Prop where
  nd : Cs.Nodup
  sees : ∀ C ∈ Cs, Sees K C
  kit : ∀ C ∈ Cs, ∀ D ∈ Cs, PySem.W.kitOne K (.ref C) (.ref D) = some (decide (C = D))
  off : ∀ C ∈ Cs, ∀ t ∈ ["str", "list", "tuple", "int", "bool"], PySem.W.kitOne K (.ref C) (.type t) = some false
  no : ∀ C ∈ Cs, ∀ t ∈ ["NoneType", "bool", "int", "str", "list", "tuple", "dict"], PySem.W.kitOne K (.type t) (.ref C) = some false
def famB (K : PySem.W.Frag) (Cs : List Addr) : Bool := (decide Cs.Nodup && (Cs.all fun C => seesB K C)) && ((Cs.all fun C => Cs.all fun D => decide (PySem.W.kitOne K (.ref C) (.ref D) = some (decide (C = D)))) &&
  ((Cs.all fun C => ["str", "list", "tuple", "int", "bool"].all fun t => decide (PySem.W.kitOne K (.ref C) (.type t) = some false)) && (Cs.all fun C => ["NoneType", "bool", "int", "str", "list", "tuple", "dict"].all fun t => decide (PySem.W.kitOne K (.type t) (.ref C) = some false))))
theorem famB_ok {K : PySem.W.Frag} {Cs : List Addr} (h : famB K Cs = true) : Fam K Cs := by
  obtain ⟨a, b⟩ := He.ba h
  obtain ⟨a1, a2⟩ := He.ba a
  obtain ⟨b1, b⟩ := He.ba b
  obtain ⟨b2, b3⟩ := He.ba b
  exact ⟨of_decide_eq_true a1, fun C hC => seesB_ok (List.all_eq_true.mp a2 C hC), fun C hC D hD => of_decide_eq_true (List.all_eq_true.mp (List.all_eq_true.mp b1 C hC) D hD),
    fun C hC t ht => of_decide_eq_true (List.all_eq_true.mp (List.all_eq_true.mp b2 C hC) t ht), fun C hC t ht => of_decide_eq_true (List.all_eq_true.mp (List.all_eq_true.mp b3 C hC) t ht)⟩
def decl : Operator → List String
  | .BitOr => ["bool", "int", "dict"]
  | _ => ["bool", "int"]
abbrev tyNames : List String := ["NoneType", "bool", "int", "str", "list", "tuple", "dict"]
/-- an own class with the operator and its reflected one, among built-in types and the own classes Ds, which have neither -/
structure ForC (K : PySem.W.Frag) (C : Addr) (op : Operator) (Ds : List Addr) : Prop where
  self : PySem.W.selfFirst K C = true
  ty : ∀ T ∈ tyNames, (∃ fo ro, PySem.W.findIn K (.type T) (PySem.dunder op.info.2) = some fo ∧ PySem.W.findIn K (.type T) (dunderR op.info.2) = some ro ∧
    (T ∉ decl op → ((fo.isSome && !isSeqSlot fo) || (ro.isSome && !isSeqSlot ro)) = false)) ∧ PySem.W.subIn K (.type T) (.ref C) = some false ∧ PySem.W.subIn K (.ref C) (.type T) = some false
  obj : PySem.W.findIn K (.type "object") (PySem.dunder op.info.2) = some none ∧ PySem.W.findIn K (.type "object") (dunderR op.info.2) = some none
  own : ∀ D ∈ Ds, D ≠ C ∧ (∃ cd, PySem.W.clsIn K D = some cd ∧ cd.mro = [.ref D, .type "object"]) ∧ PySem.W.findIn K (.ref D) (PySem.dunder op.info.2) = some none ∧ PySem.W.findIn K (.ref D) (dunderR op.info.2) = some none
def forTB (K : PySem.W.Frag) (C : Addr) (op : Operator) (T : String) : Bool := (match PySem.W.findIn K (.type T) (PySem.dunder op.info.2), PySem.W.findIn K (.type T) (dunderR op.info.2) with
  | some fo, some ro => decide (T ∈ decl op) || !((fo.isSome && !isSeqSlot fo) || (ro.isSome && !isSeqSlot ro))
  | _, _ => false) && (decide (PySem.W.subIn K (.type T) (.ref C) = some false) && decide (PySem.W.subIn K (.ref C) (.type T) = some false))
def mroTwo (D : Addr) : Option PySem.ClassData → Bool
  | some cd => (match cd.mro with
    | [.ref a, .type t] => decide (a = D) && decide (t = "object")
    | _ => false)
  | none => false
theorem mroTwo_ok {D : Addr} {o : Option PySem.ClassData} (h : mroTwo D o = true) : ∃ cd, o = some cd ∧ cd.mro = [.ref D, .type "object"] := by
  cases o with
  | none => cases h
  | some cd =>
    refine ⟨cd, rfl, ?_⟩
    unfold mroTwo at h
    dsimp only at h
    split at h
    · rename_i a t e
      obtain ⟨h1, h2⟩ := He.ba h
      rw [e, of_decide_eq_true h1, of_decide_eq_true h2]
    · cases h
def forDB (K : PySem.W.Frag) (C : Addr) (op : Operator) (D : Addr) : Bool := (decide (D ≠ C) && mroTwo D (PySem.W.clsIn K D)) && (He.eqO (PySem.W.findIn K (.ref D) (PySem.dunder op.info.2)) (some none) && He.eqO (PySem.W.findIn K (.ref D) (dunderR op.info.2)) (some none))
def forB (K : PySem.W.Frag) (C : Addr) (op : Operator) (Ds : List Addr) : Bool := (PySem.W.selfFirst K C && tyNames.all (forTB K C op)) && ((He.eqO (PySem.W.findIn K (.type "object") (PySem.dunder op.info.2)) (some none) && He.eqO (PySem.W.findIn K (.type "object") (dunderR op.info.2)) (some none)) && Ds.all (forDB K C op))
theorem forB_ok {K : PySem.W.Frag} {C : Addr} {op : Operator} {Ds : List Addr} (h : forB K C op Ds = true) : ForC K C op Ds := by
  obtain ⟨a, b⟩ := He.ba h
  obtain ⟨a1, a2⟩ := He.ba a
  obtain ⟨b1, b2⟩ := He.ba b
  obtain ⟨o1, o2⟩ := He.ba b1
  refine ⟨a1, fun T hT => ?_, ⟨He.eqO_ok o1, He.eqO_ok o2⟩, fun D hD => ?_⟩
  · obtain ⟨c, d⟩ := He.ba (List.all_eq_true.mp a2 T hT)
    obtain ⟨d1, d2⟩ := He.ba d
    refine ⟨?_, of_decide_eq_true d1, of_decide_eq_true d2⟩
    split at c
    · rename_i fo ro e1 e2
      refine ⟨fo, ro, e1, e2, fun m => ?_⟩
      rcases Bool.or_eq_true _ _ ▸ c with z | z
      · exact absurd (of_decide_eq_true z) m
      · exact Bool.not_eq_true' _ ▸ z
    · cases c
  · obtain ⟨c, d⟩ := He.ba (List.all_eq_true.mp b2 D hD)
    obtain ⟨c1, c2⟩ := He.ba c
    obtain ⟨d1, d2⟩ := He.ba d
    exact ⟨of_decide_eq_true c1, mroTwo_ok c2, He.eqO_ok d1, He.eqO_ok d2⟩
theorem ForC.fills {K : PySem.W.Frag} {C D : Addr} {op : Operator} {Ds : List Addr} {M : Model} {h : Heap} (F : ForC K C op Ds) (X : K.In h) (m : D ∈ Ds) : PySem.W.Looks M h (fillsNumberSlot (.ref D) op.info.2) false := by
  obtain ⟨_, ⟨cd, h1, h2⟩, h3, h4⟩ := F.own D m
  exact fills_no X h1 h2 h3 h4 F.obj.1 F.obj.2
/-- the types that were asked of -/
def Tv (Ds : List Addr) (t : Value) : Prop := (∃ T ∈ tyNames, t = .type T) ∨ ∃ D ∈ Ds, t = .ref D
section
variable {X : Cx} {CX : CXT} {k : Nat} {C f g : Addr} {Ds : List Addr} {fd : FuncData} {ps : List Str} {sp : Sp} {E : L2.St → XK} {op : Operator}
def rForL (C : Addr) (Ds : List Addr) (sp : Sp) (E : L2.St → XK) : L2.St → R2 := fun τ x y H Q => ∃ a dx fs t, x = .ref a ∧ H a = some (.ins C dx fs) ∧ Fo H y t ∧ Tv Ds t ∧ sp [.ref a, y] H Q (E τ)
theorem op_forL (M : ForC X.K C op Ds) (l : OpC X.K C (PySem.dunder op.info.2) f) (r : OpC X.K C (dunderR op.info.2) g) (F : FnOk X.prog X.w X.K X.mg X.base CX k f fd ps sp) (hr : Room k X.A) (hb : Binds X.K fd ps []) (out : ∀ τ, PassesAt CX X τ (E τ)) : OpS X (binaryOp op) (rForL C Ds sp E) := by
  intro pn t τ G x y va vb W I rx ry h
  obtain ⟨a, dx, fs, tv, rfl, ha, fo, tk, q⟩ := h
  cases rx
  obtain ⟨oa, da, Ja⟩ := inst_of I ha
  obtain ⟨mm, Fm⟩ := I.fr
  have one := wpAny_mono (run_opS F hr hb (out τ) I (.cons (relRef _) (.cons ry .nil)) q) (fun _ _ z => back_ok z) fun _ _ z => z
  have look := fo.looks I ry
  rcases tk with ⟨T, hT, rfl⟩ | ⟨D, hD, rfl⟩
  · obtain ⟨⟨fo, ro, e1, e2, _⟩, n1, _⟩ := M.ty T hT
    exact binL Fm I.mod.kin Ja look M.self l.at_ l.fn r.at_ e1 e2 n1 one
  · refine binF Fm I.mod.kin Ja look (Bool.eq_false_iff.mpr fun z => (M.own D hD).1 ?_) M.self l.at_ l.fn (M.fills (I.mod.kin.keeps Fm.keep) hD) one
    have z := beq_iff_eq.mp z
    cases z
    rfl
def rForR (C : Addr) (Ds : List Addr) (sp : Sp) (E : L2.St → XK) : L2.St → R2 := fun τ x y H Q => ∃ a dx fs t, y = .ref a ∧ H a = some (.ins C dx fs) ∧ Fo H x t ∧ Tv Ds t ∧ sp [.ref a, x] H Q (E τ)
theorem op_forR (hop : op = .BitOr ∨ op = .BitAnd ∨ op = .Sub) (M : ForC X.K C op Ds) (l : OpC X.K C (PySem.dunder op.info.2) f) (r : OpC X.K C (dunderR op.info.2) g) (F : FnOk X.prog X.w X.K X.mg X.base CX k g fd ps sp) (hr : Room k X.A) (hb : Binds X.K fd ps []) (out : ∀ τ, PassesAt CX X τ (E τ)) : OpS X (binaryOp op) (rForR C Ds sp E) := by
  intro pn t τ G x y va vb W I rx ry h
  obtain ⟨a, dx, fs, tv, rfl, ha, fo, tk, q⟩ := h
  cases ry
  obtain ⟨oa, da, Ja⟩ := inst_of I ha
  obtain ⟨mm, Fm⟩ := I.fr
  have one := wpAny_mono (run_opS F hr hb (out τ) I (.cons (relRef _) (.cons rx .nil)) q) (fun _ _ z => back_ok z) fun _ _ z => z
  have look := fo.looks I rx
  obtain ⟨mA, O, _⟩ := ins_get I.hok ha
  rcases tk with ⟨T, hT, rfl⟩ | ⟨D, hD, rfl⟩
  · obtain ⟨⟨fo', ro, e1, e2, low⟩, _, n2⟩ := M.ty T hT
    by_cases c : T ∈ decl op
    · have kin := I.mod.kin.keeps Fm.keep
      rcases hop with rfl | rfl | rfl
      · cases fo with
        | bl b =>
          cases rx
          exact binD (op := .BitOr) Fm I.mod.kin Ja (PySem.typeIs_bool t b) look M.self l.at_ r.at_ r.fn PySem.F.fills_bool_or n2 PySem.F.slot_bool_or
            (fun R r => call_meets PySem.F.slot_bool_or (PySem.typeIs_bool t b) PySem.F.entry_bool_or (PySem.F.args_bool_or_2 _ _) (or_noB b a C dx) ⟨O.obj, r⟩) one
        | int n =>
          obtain ⟨kk, rfl⟩ := rx
          exact binD (op := .BitOr) Fm I.mod.kin Ja (typeIs_int t n kk) look M.self l.at_ r.at_ r.fn PySem.F.fills_int_or n2 PySem.F.slot_int_or
            (fun R r => call_meets PySem.F.slot_int_or (typeIs_int t n kk) PySem.F.entry_int_or (PySem.F.args_int_or_2 _ _) (or_no n kk a C dx) ⟨O.obj, r⟩) one
        | @dct d kvs e =>
          cases rx
          obtain ⟨_, _, vs, _, ob, es, ep, g, cc, _⟩ := (show ObjOk X.prog X.w G t.heap d (.dK kvs) from I.hok d _ e)
          exact binD (op := .BitOr) Fm I.mod.kin Ja (T := "dict") ⟨ob, g, cc.1⟩ look M.self l.at_ r.at_ r.fn PySem.F.fills_dict_or n2 PySem.F.slot_dict_or
            (fun R r => call_meetsIn PySem.F.slot_dict_or (T := "dict") ⟨ob, g, cc.1⟩ PySem.F.entry_dict_or (PySem.F.args_dict_or_2 _ _) (or_noD d a) ⟨⟨ob, g, cc.1⟩, ⟨.ref C, Ja.type, PySem.W.looks_subIn kin n2⟩, r⟩) one
        | non => exact absurd c (by decide)
        | str z => exact absurd c (by decide)
        | lst e => exact absurd c (by decide)
        | tup e => exact absurd c (by decide)
      · cases fo with
        | bl b =>
          cases rx
          exact binD (op := .BitAnd) Fm I.mod.kin Ja (PySem.typeIs_bool t b) look M.self l.at_ r.at_ r.fn PySem.F.fills_bool_and n2 PySem.F.slot_bool_and
            (fun R r => call_meets PySem.F.slot_bool_and (PySem.typeIs_bool t b) PySem.F.entry_bool_and (PySem.F.args_bool_and_2 _ _) (and_noB b a C dx) ⟨O.obj, r⟩) one
        | int n =>
          obtain ⟨kk, rfl⟩ := rx
          exact binD (op := .BitAnd) Fm I.mod.kin Ja (typeIs_int t n kk) look M.self l.at_ r.at_ r.fn PySem.F.fills_int_and n2 PySem.F.slot_int_and
            (fun R r => call_meets PySem.F.slot_int_and (typeIs_int t n kk) PySem.F.entry_int_and (PySem.F.args_int_and_2 _ _) (and_no n kk a C dx) ⟨O.obj, r⟩) one
        | dct e => exact absurd c (by decide)
        | non => exact absurd c (by decide)
        | str z => exact absurd c (by decide)
        | lst e => exact absurd c (by decide)
        | tup e => exact absurd c (by decide)
      · cases fo with
        | bl b =>
          cases rx
          exact binD (op := .Sub) Fm I.mod.kin Ja (PySem.typeIs_bool t b) look M.self l.at_ r.at_ r.fn PySem.F.fills_bool_sub n2 PySem.F.slot_bool_sub
            (fun R r => call_meets PySem.F.slot_bool_sub (PySem.typeIs_bool t b) PySem.F.entry_int_sub (PySem.F.args_int_sub_2 _ _) (sub_noB b a C dx) ⟨O.obj, r⟩) one
        | int n =>
          obtain ⟨kk, rfl⟩ := rx
          exact binD (op := .Sub) Fm I.mod.kin Ja (typeIs_int t n kk) look M.self l.at_ r.at_ r.fn PySem.F.fills_int_sub n2 PySem.F.slot_int_sub
            (fun R r => call_meets PySem.F.slot_int_sub (typeIs_int t n kk) PySem.F.entry_int_sub (PySem.F.args_int_sub_2 _ _) (sub_no n kk a C dx) ⟨O.obj, r⟩) one
        | dct e => exact absurd c (by decide)
        | non => exact absurd c (by decide)
        | str z => exact absurd c (by decide)
        | lst e => exact absurd c (by decide)
        | tup e => exact absurd c (by decide)
    · exact binN Fm I.mod.kin Ja look M.self l.at_ r.at_ r.fn e1 e2 (low c) one
  · refine binG Fm I.mod.kin Ja look (Bool.eq_false_iff.mpr fun z => (M.own D hD).1 ?_) M.self l.at_ r.at_ r.fn (M.fills (I.mod.kin.keeps Fm.keep) hD) one
    have z := beq_iff_eq.mp z
    cases z
    rfl
end
/-- one error that is told apart from some others -/
structure ErrA (K : PySem.W.Frag) (A T : Addr) (Bs : List Addr) : Prop where
  c : ExcC K A
  own : PySem.W.exmOne K (.ref A) (.ref A) = some true
  no : ∀ B ∈ Bs, PySem.W.exmOne K (.ref A) (.ref B) = some false
  tA : PySem.W.kitOne K (.ref A) (.ref T) = some true
  vA : PySem.W.kitOne K (.ref A) (.type "ValueError") = some true
def errAB (K : PySem.W.Frag) (A T : Addr) (Bs : List Addr) : Bool := (excCB K A && decide (PySem.W.exmOne K (.ref A) (.ref A) = some true)) && ((Bs.all fun B => decide (PySem.W.exmOne K (.ref A) (.ref B) = some false)) &&
  (decide (PySem.W.kitOne K (.ref A) (.ref T) = some true) && decide (PySem.W.kitOne K (.ref A) (.type "ValueError") = some true)))
theorem errAB_ok {K : PySem.W.Frag} {A T : Addr} {Bs : List Addr} (h : errAB K A T Bs = true) : ErrA K A T Bs := by
  obtain ⟨a, b⟩ := He.ba h
  obtain ⟨a1, a2⟩ := He.ba a
  obtain ⟨b1, b⟩ := He.ba b
  obtain ⟨b2, b3⟩ := He.ba b
  exact ⟨excCB_ok a1, of_decide_eq_true a2, fun B hB => of_decide_eq_true (List.all_eq_true.mp b1 B hB), of_decide_eq_true b2, of_decide_eq_true b3⟩
end Tl

set_option autoImplicit false
set_option maxErrors 4
/-! Properties of own classes: what the head reads of them. -/
namespace Tl
open PySem PySem.Spec PyProof.Rows L2
def prP : Option (Option Value) → Option Addr
  | some (some (.ref p)) => some p
  | _ => none
/-- where the property, its getter stand -/
def prA (K : PySem.W.Frag) (C : Addr) (f : Str) : Addr := (prP (PySem.W.findIn K (.ref C) f)).getD 0
def prG (K : PySem.W.Frag) (C : Addr) (f : Str) : Addr := (recF (PySem.W.recIn K (prA K C f) "property")).getD 0
def propB (K : PySem.W.Frag) (C : Addr) (f : Str) : Bool := ((match PySem.W.findIn K (.ref C) f with
    | some (some (.ref _)) => true
    | _ => false) && He.eqO (PySem.W.specialIn K (.ref (prA K C f)) "__get__") (some (some (.builtin "property.__get__")))) &&
  (decide (PySem.W.takesIn K (.ref (prA K C f)) = some true) && (recB (PySem.W.recIn K (prA K C f) "property") && PySem.W.keepIn K (.ref (prG K C f))))
theorem propB_ok {K : PySem.W.Frag} {C : Addr} {f : Str} (h : propB K C f = true) : PropOf K C f (prA K C f) (prG K C f) ∧ PySem.W.keepIn K (.ref (prG K C f)) = true := by
  obtain ⟨a, b⟩ := He.ba h
  obtain ⟨a1, a2⟩ := He.ba a
  obtain ⟨b1, b⟩ := He.ba b
  obtain ⟨b2, b3⟩ := He.ba b
  have e : PySem.W.findIn K (.ref C) f = some (some (.ref (prA K C f))) := by
    unfold prA
    cases h1 : PySem.W.findIn K (.ref C) f with
    | none => rw [h1] at a1; cases a1
    | some o =>
      rw [h1] at a1
      cases o with
      | none => cases a1
      | some v =>
        cases v with
        | ref p => rfl
        | _ => cases a1
  obtain ⟨rest, e2⟩ := recB_ok b2
  exact ⟨⟨e, He.eqO_ok a2, of_decide_eq_true b1, rest, e2⟩, b3⟩
structure PrD where
  cls : Str
  nm : Str
  d : He.DefD
def PrD.ad (K : PySem.W.Frag) (x : PrD) : Addr := prG K (He.ga K x.cls) x.nm
def prW (K : PySem.W.Frag) (x : PrD) : He.FnW := match K.lookup (x.ad K) with
  | some ⟨_, _, .func fd, _⟩ => some (fd.name, fd.qualname, fd.params, fd.body, fd.scope, fd.globals, fd.closure, fd.builtins)
  | _ => none
def PrD.ok (K : PySem.W.Frag) (x : PrD) : Bool := propB K (He.ga K x.cls) x.nm && (match K.lookup (x.ad K) with
  | some ⟨_, _, .func fd, _⟩ => PySem.W.codeIn K fd.code x.d.qual && (He.dflB K fd.defaults (x.d.dvs K) && He.kwdB K fd.kwdefaults (x.d.kws K))
  | _ => false)
theorem PrD.funD {K : PySem.W.Frag} {x : PrD} (e : prW K x = x.d.val) (c : x.ok K = true) : (∃ p, PropOf K (He.ga K x.cls) x.nm p (x.ad K)) ∧ ∃ fd, FunD K x.d.name x.d.qual x.d.params x.d.body x.d.scope (x.d.dvs K) (x.d.kws K) (x.ad K) fd := by
  obtain ⟨st, c⟩ := He.ba c
  obtain ⟨S, kp⟩ := propB_ok st
  refine ⟨⟨_, S⟩, ?_⟩
  unfold prW at e
  cases look : K.lookup (x.ad K) with
  | none =>
    rw [look] at c
    cases c
  | some ob =>
    obtain ⟨oc, od, dt, sl⟩ := ob
    rw [look] at c e
    cases dt with
    | func fd =>
      obtain ⟨f1, f2, f3, f4, f5, f6, f7, f8, f9, f10, f11, f12, f13, f14, f15⟩ := fd
      have same : (some (f1, f2, f3, f4, f5, f6, f7, f15) : He.FnW) = some (x.d.name, x.d.qual, x.d.params, .stmts x.d.body, x.d.scope, mainGlobals, [], builtinsNs) := e
      simp only [Option.some.injEq, Prod.mk.injEq] at same
      obtain ⟨i1, i2, i3, i4, i5, i6, i7, i8⟩ := same
      subst i1 i2 i3 i4 i5 i6 i7 i8
      have all : (PySem.W.codeIn K f13 x.d.qual && (He.dflB K f8 (x.d.dvs K) && He.kwdB K f9 (x.d.kws K))) = true := c
      obtain ⟨j1, all⟩ := He.ba all
      obtain ⟨j2, j3⟩ := He.ba all
      exact ⟨_, ⟨oc, od, f8, f9, f10, f11, f12, f13, f14, sl, rfl, look, j1, He.dflB_ok j2, He.kwdB_ok j3⟩, kp⟩
    | _ => cases c
abbrev AlP : Type := AlS × (Bool × List He.FnW)
def obsP (n : Nat) (fa : List He.Fa) (fn : List He.DefD) (sd : List StD) (pd : List PrD) (ex : PySem.W.Frag → Bool) (g : Addr → Option Obj) : AlP :=
  (obsS n fa fn sd ex g, (pd.all fun x => x.ok (He.frT g (cStatics :: He.asD g n))), pd.map fun x => prW (He.frT g (cStatics :: He.asD g n)) x)
def valP (fn : List He.DefD) (sd : List StD) (pd : List PrD) : AlP := (valS fn sd, true, pd.map fun x => x.d.val)
structure SaysP (fa : List He.Fa) (fn : List He.DefD) (sd : List StD) (pd : List PrD) (ex : PySem.W.Frag → Bool) (K : PySem.W.Frag) : Prop where
  s : SaysS fa fn sd ex K
  pr : ∀ x ∈ pd, (∃ p, PropOf K (He.ga K x.cls) x.nm p (x.ad K)) ∧ ∃ fd, FunD K x.d.name x.d.qual x.d.params x.d.body x.d.scope (x.d.dvs K) (x.d.kws K) (x.ad K) fd
theorem saysP_of {fa : List He.Fa} {fn : List He.DefD} {sd : List StD} {pd : List PrD} {ex : PySem.W.Frag → Bool} {K : PySem.W.Frag} (e : (((((He.obsD fa fn K, ex K && sd.all fun x => x.ok K), sd.map fun x => stW K x) : AlS), (pd.all fun x => x.ok K), pd.map fun x => prW K x) : AlP) = valP fn sd pd) : SaysP fa fn sd pd ex K := by
  have e1 := congrArg (fun z : AlP => z.1) e
  have e2 : (pd.all fun x => x.ok K) = true := congrArg (fun z : AlP => z.2.1) e
  have e3 : (pd.map fun x => prW K x) = pd.map fun x => x.d.val := congrArg (fun z : AlP => z.2.2) e
  refine ⟨saysS_of e1, fun x hx => ?_⟩
  obtain ⟨i, hi, rfl⟩ := List.mem_iff_getElem.mp hx
  have e4 : (pd.map fun x => prW K x)[i]? = (pd.map fun x => x.d.val)[i]? := by rw [e3]
  rw [List.getElem?_map, List.getElem?_map, List.getElem?_eq_getElem hi] at e4
  exact PrD.funD (Option.some.inj e4) (List.all_eq_true.mp e2 _ hx)
def hookP (n : Nat) (fa : List He.Fa) (fn : List He.DefD) (sd : List StD) (pd : List PrD) (ex : PySem.W.Frag → Bool) : PySem.W.Hook where
  α := AlP
  obs := fun s => obsP n fa fn sd pd ex s.heap.get?
  val := fun _ => valP fn sd pd
  says := fun _ h => ∃ K : PySem.W.Frag, K.In h ∧ SaysP fa fn sd pd ex K
  of := fun _ _ e => ⟨_, He.frT_in, saysP_of e⟩
  keeps := fun _ _ _ ⟨K, hK, c⟩ k => ⟨K, PySem.W.Frag.In.keeps hK k, c⟩
theorem obsP_eq {n : Nat} {fa : List He.Fa} {fn : List He.DefD} {sd : List StD} {pd : List PrD} {ex : PySem.W.Frag → Bool} {g : Addr → Option Obj} {s : Shared} (h : ∀ a, g a = s.heap.get? a) : obsP n fa fn sd pd ex g = (hookP n fa fn sd pd ex).obs s := by
  have e : g = s.heap.get? := funext h
  rw [e] <;> rfl
end Tl

set_option autoImplicit false
set_option maxErrors 4
/-! What the head reads, gathered path by path (no duplicates taken out), in several kernel runs. -/
namespace Tl
open PySem PySem.Spec PyProof.Rows L2
def kidsT (g : Addr → Option Obj) (a : Addr) : List Addr := match g a with
  | some ⟨_, _, .func fd, _⟩ => He.refV fd.code ++ (He.refV fd.defaults ++ He.refV fd.kwdefaults)
  | some ⟨_, _, .cls cd, _⟩ => [cd.ns]
  | some ⟨_, _, .dict es _, _⟩ => es.toList.flatMap fun e => He.refV e.val
  | some ⟨.type t, _, .fields vs, _⟩ => if t == "staticmethod" || t == "property" then vs.toList.flatMap He.refV else []
  | _ => []
def deepT (g : Addr → Option Obj) : Nat → Addr → List Addr
  | 0, a => [a]
  | n + 1, a => a :: (kidsT g a).flatMap (deepT g n)
/-- the module's globals, their classes, methods, codes -/
def asT (g : Addr → Option Obj) : List Addr := cStatics :: mainGlobals :: (kidsT g mainGlobals).flatMap (deepT g 4)
def frQ (g : Addr → Option Obj) : PySem.W.Frag := He.frT g (asT g)
def obsQ (fa : List He.Fa) (fn : List He.DefD) (sd : List StD) (pd : List PrD) (ex : PySem.W.Frag → Bool) (g : Addr → Option Obj) : AlP :=
  ((((((fa.all fun f => f.ok (frQ g)) && fn.all fun d => d.ok (frQ g), fn.map fun d => He.fnW (frQ g) d.at_) : He.AlD), ex (frQ g) && sd.all fun x => x.ok (frQ g)), sd.map fun x => stW (frQ g) x), (pd.all fun x => x.ok (frQ g), pd.map fun x => prW (frQ g) x))
def hookQ (fa : List He.Fa) (fn : List He.DefD) (sd : List StD) (pd : List PrD) (ex : PySem.W.Frag → Bool) : PySem.W.Hook where
  α := AlP
  obs := fun s => obsQ fa fn sd pd ex s.heap.get?
  val := fun _ => valP fn sd pd
  says := fun _ h => ∃ K : PySem.W.Frag, K.In h ∧ SaysP fa fn sd pd ex K
  of := fun _ _ e => ⟨_, He.frT_in, saysP_of e⟩
  keeps := fun _ _ _ ⟨K, hK, c⟩ k => ⟨K, PySem.W.Frag.In.keeps hK k, c⟩
theorem obsQ_eq {fa : List He.Fa} {fn : List He.DefD} {sd : List StD} {pd : List PrD} {ex : PySem.W.Frag → Bool} {g : Addr → Option Obj} {s : Shared} (h : ∀ a, g a = s.heap.get? a) : obsQ fa fn sd pd ex g = (hookQ fa fn sd pd ex).obs s := by
  have e : g = s.heap.get? := funext h
  rw [e] <;> rfl
theorem glueQ {α β γ δ : Type} {X : Option α} {f1 f2 f4 f5 f7 : α → Bool} {f3 : α → β} {f6 : α → γ} {f8 : α → δ} {v3 : β} {v6 : γ} {v8 : δ} (h1 : X.map f1 = some true) (h2 : X.map f2 = some true) (h3 : X.map f3 = some v3) (h4 : X.map f4 = some true) (h5 : X.map (fun s => (f5 s, f6 s, f7 s, f8 s)) = some (true, v6, true, v8)) :
    X.map (fun s => ((((f1 s && f2 s, f3 s), f4 s && f5 s), f6 s), (f7 s, f8 s))) = some ((((true, v3), true), v6), (true, v8)) := by
  cases X with
  | none => cases h1
  | some s =>
    have e1 : f1 s = true := Option.some.inj h1
    have e2 : f2 s = true := Option.some.inj h2
    have e3 : f3 s = v3 := Option.some.inj h3
    have e4 : f4 s = true := Option.some.inj h4
    have e5 : (f5 s, f6 s, f7 s, f8 s) = (true, v6, true, v8) := Option.some.inj h5
    injection e5 with a1 e5
    injection e5 with a2 e5
    injection e5 with a3 a4
    show some ((((f1 s && f2 s, f3 s), f4 s && f5 s), f6 s), (f7 s, f8 s)) = _
    rw [e1, e2, e3, e4, a1, a2, a3, a4]
    rfl
end Tl

namespace K14
open PySem PySem.Spec PyProof.Rows L2
/-! ### the text -/
def top (i : Nat) : Stmt := PySem.Challenge.pw_townlines_k14_places.main.body.getD i (.Pass ⟨0, 0, 0, 0⟩)
abbrev s_is_integer : Stmt := top 3
abbrev s_is_integer_within : Stmt := top 4
abbrev s_is_row : Stmt := top 5
abbrev s_is_name : Stmt := top 6
abbrev s_Net_init_ : Stmt := inClass (top 23) 0
abbrev s_places_by_char : Stmt := top 24
abbrev s_place_count : Stmt := top 25
abbrev s_run_net : Stmt := top 26
abbrev s_text_net : Stmt := top 27
abbrev s_or_nothing : Stmt := top 28
abbrev s_renumbered : Stmt := top 29
abbrev s_chained : Stmt := top 30
abbrev s_side_by_side : Stmt := top 31
abbrev s_line_added : Stmt := top 32
abbrev s_under_each_other : Stmt := top 33
abbrev s_stand_from : Stmt := top 38
abbrev s_stand_after : Stmt := top 39
abbrev s_takes : Stmt := top 40
abbrev s_Signs_init_ : Stmt := inClass (top 43) 0
abbrev s_is_sign_text : Stmt := top 45
abbrev s_is_signs : Stmt := top 46
abbrev s_signs_of : Stmt := top 47
abbrev s_Kind_init_ : Stmt := inClass (top 58) 0
abbrev s_Kindrun : Stmt := inClass (top 58) 1
abbrev s_Kind_add_ : Stmt := inClass (top 58) 3
abbrev s_Kind_or_ : Stmt := inClass (top 58) 4
abbrev s_Kind_eq_ : Stmt := inClass (top 58) 7
abbrev s_Kindhas_empty : Stmt := inClass (top 58) 9
abbrev s_are_bounds : Stmt := top 59
abbrev s_without_repeats : Stmt := top 61
abbrev s_is_too_large : Stmt := top 62
abbrev s_alternative_net : Stmt := top 63
abbrev s_Field_init_ : Stmt := inClass (top 69) 0
abbrev s_Field_eq_ : Stmt := inClass (top 69) 1
abbrev s_Mark_init_ : Stmt := inClass (top 70) 0
abbrev s_Mark_eq_ : Stmt := inClass (top 70) 1
abbrev s_Maybe_init_ : Stmt := inClass (top 71) 0
abbrev s_Maybe_eq_ : Stmt := inClass (top 71) 1
abbrev s_is_field_kind : Stmt := top 72
abbrev s_is_item : Stmt := top 73
abbrev s_has_own_field : Stmt := top 74
abbrev s_fields_in : Stmt := top 75
abbrev s_depth_around : Stmt := top 76
abbrev s_item_size : Stmt := top 77
abbrev s_row_size : Stmt := top 78
abbrev s_joined : Stmt := top 79
abbrev s_check_lines : Stmt := top 83
abbrev s_is_item_row : Stmt := top 84
abbrev s_lines_size : Stmt := top 85
abbrev s_lines_net : Stmt := top 86
abbrev s_row_net : Stmt := top 87
abbrev s_item_net : Stmt := top 88
abbrev s_lines_holders : Stmt := top 89
abbrev s_row_holders : Stmt := top 90
abbrev s_owner_sets : Stmt := top 91
abbrev s_Form_init_ : Stmt := inClass (top 101) 0
abbrev s_Form_add_ : Stmt := inClass (top 101) 2
abbrev s_Form_eq_ : Stmt := inClass (top 101) 3
abbrev s_Formplaces : Stmt := inClass (top 101) 12
abbrev s_l_bag : Stmt := top 104
abbrev s_l_draw : Stmt := top 105
abbrev s_l_alphabet : Stmt := top 106
abbrev s_l_letters : Stmt := top 107
abbrev s_l_signs : Stmt := top 108
abbrev s_l_run : Stmt := top 109
abbrev s_l_rows : Stmt := top 110
abbrev s_l_names : Stmt := top 111
abbrev s_l_row : Stmt := top 112
abbrev s_l_lines : Stmt := top 113
abbrev s_l_kind : Stmt := top 114
abbrev s_l_items : Stmt := top 115
abbrev s_l_make : Stmt := top 116
abbrev s_l_kept : Stmt := top 117
abbrev s_l_kind_places : Stmt := top 118
abbrev s_l_row_places : Stmt := top 119
abbrev s_l_is_places : Stmt := top 120
abbrev s_law : Stmt := top 121
/-! ### names and parameters -/
theorem sc_is_integer : FnScope ["thing"] ["thing"] (defScope s_is_integer) := ⟨rfl, rfl, rfl, by decide +kernel, rfl, by decide +kernel, by decide +kernel⟩
theorem sc_is_integer_within : FnScope ["thing", "low", "high"] ["thing", "low", "high"] (defScope s_is_integer_within) := ⟨rfl, rfl, rfl, by decide +kernel, rfl, by decide +kernel, by decide +kernel⟩
theorem sc_is_row : FnScope ["thing"] ["thing"] (defScope s_is_row) := ⟨rfl, rfl, rfl, by decide +kernel, rfl, by decide +kernel, by decide +kernel⟩
theorem sc_is_name : FnScope ["thing", "letter"] ["thing"] (defScope s_is_name) := ⟨rfl, rfl, rfl, by decide +kernel, rfl, by decide +kernel, by decide +kernel⟩
theorem sc_Net_init_ : FnScope ["self", "chars", "follow", "exits"] ["self", "chars", "follow", "exits"] (defScope s_Net_init_) := ⟨rfl, rfl, rfl, by decide +kernel, rfl, by decide +kernel, by decide +kernel⟩
theorem sc_places_by_char : FnScope ["chars", "by_string", "place", "string", "by_char", "places", "char"] ["chars"] (defScope s_places_by_char) := ⟨rfl, rfl, rfl, by decide +kernel, rfl, by decide +kernel, by decide +kernel⟩
theorem sc_place_count : FnScope ["least", "most"] ["least", "most"] (defScope s_place_count) := ⟨rfl, rfl, rfl, by decide +kernel, rfl, by decide +kernel, by decide +kernel⟩
theorem sc_run_net : FnScope ["signs", "least", "most", "count", "after_last", "taken", "follow", "exits"] ["signs", "least", "most"] (defScope s_run_net) := ⟨rfl, rfl, rfl, by decide +kernel, rfl, by decide +kernel, by decide +kernel⟩
theorem sc_text_net : FnScope ["text", "count", "at"] ["text"] (defScope s_text_net) := ⟨rfl, rfl, rfl, by decide +kernel, rfl, by decide +kernel, by decide +kernel⟩
theorem sc_or_nothing : FnScope ["net"] ["net"] (defScope s_or_nothing) := ⟨rfl, rfl, rfl, by decide +kernel, rfl, by decide +kernel, by decide +kernel⟩
theorem sc_renumbered : FnScope ["places", "shift"] ["places", "shift"] (defScope s_renumbered) := ⟨rfl, rfl, rfl, by decide +kernel, rfl, by decide +kernel, by decide +kernel⟩
theorem sc_chained : FnScope ["nets", "chars", "follow", "exits", "net", "shift", "first", "at", "ways", "earlier"] ["nets"] (defScope s_chained) := ⟨rfl, rfl, rfl, by decide +kernel, rfl, by decide +kernel, by decide +kernel⟩
theorem sc_side_by_side : FnScope ["nets", "chars", "first", "follow", "exits", "net", "shift", "ways"] ["nets"] (defScope s_side_by_side) := ⟨rfl, rfl, rfl, by decide +kernel, rfl, by decide +kernel, by decide +kernel⟩
theorem sc_line_added : FnScope ["above", "line", "shift", "feed", "inside", "first", "at", "ways", "later", "follow", "earlier", "exits"] ["above", "line"] (defScope s_line_added) := ⟨rfl, rfl, rfl, by decide +kernel, rfl, by decide +kernel, by decide +kernel⟩
theorem sc_under_each_other : FnScope ["nets", "whole", "net"] ["nets"] (defScope s_under_each_other) := ⟨rfl, rfl, rfl, by decide +kernel, rfl, by decide +kernel, by decide +kernel⟩
theorem sc_stand_from : FnScope ["net", "start", "text", "stand", "char"] ["net", "start", "text"] (defScope s_stand_from) := ⟨rfl, rfl, rfl, by decide +kernel, rfl, by decide +kernel, by decide +kernel⟩
theorem sc_stand_after : FnScope ["net", "text"] ["net", "text"] (defScope s_stand_after) := ⟨rfl, rfl, rfl, by decide +kernel, rfl, by decide +kernel, by decide +kernel⟩
theorem sc_takes : FnScope ["net", "text"] ["net", "text"] (defScope s_takes) := ⟨rfl, rfl, rfl, by decide +kernel, rfl, by decide +kernel, by decide +kernel⟩
theorem sc_Signs_init_ : FnScope ["self", "text", "sign"] ["self", "text"] (defScope s_Signs_init_) := ⟨rfl, rfl, rfl, by decide +kernel, rfl, by decide +kernel, by decide +kernel⟩
theorem sc_is_sign_text : FnScope ["thing", "sign"] ["thing"] (defScope s_is_sign_text) := ⟨rfl, rfl, rfl, by decide +kernel, rfl, by decide +kernel, by decide +kernel⟩
theorem sc_is_signs : FnScope ["thing"] ["thing"] (defScope s_is_signs) := ⟨rfl, rfl, rfl, by decide +kernel, rfl, by decide +kernel, by decide +kernel⟩
theorem sc_signs_of : FnScope ["thing"] ["thing"] (defScope s_signs_of) := ⟨rfl, rfl, rfl, by decide +kernel, rfl, by decide +kernel, by decide +kernel⟩
theorem sc_Kind_init_ : FnScope ["self", "rows", "row"] ["self", "rows"] (defScope s_Kind_init_) := ⟨rfl, rfl, rfl, by decide +kernel, rfl, by decide +kernel, by decide +kernel⟩
theorem sc_Kindrun : FnScope ["signs", "least", "most", "spelling"] ["signs", "least", "most"] (defScope s_Kindrun) := ⟨rfl, rfl, rfl, by decide +kernel, rfl, by decide +kernel, by decide +kernel⟩
theorem sc_Kind_add_ : FnScope ["self", "other", "first", "second"] ["self", "other"] (defScope s_Kind_add_) := ⟨rfl, rfl, rfl, by decide +kernel, rfl, by decide +kernel, by decide +kernel⟩
theorem sc_Kind_or_ : FnScope ["self", "other"] ["self", "other"] (defScope s_Kind_or_) := ⟨rfl, rfl, rfl, by decide +kernel, rfl, by decide +kernel, by decide +kernel⟩
theorem sc_Kind_eq_ : FnScope ["self", "other"] ["self", "other"] (defScope s_Kind_eq_) := ⟨rfl, rfl, rfl, by decide +kernel, rfl, by decide +kernel, by decide +kernel⟩
theorem sc_Kindhas_empty : FnScope ["self"] ["self"] (defScope s_Kindhas_empty) := ⟨rfl, rfl, rfl, by decide +kernel, rfl, by decide +kernel, by decide +kernel⟩
theorem sc_are_bounds : FnScope ["least", "most"] ["least", "most"] (defScope s_are_bounds) := ⟨rfl, rfl, rfl, by decide +kernel, rfl, by decide +kernel, by decide +kernel⟩
theorem sc_without_repeats : FnScope ["rows", "row", "kept"] ["rows"] (defScope s_without_repeats) := ⟨rfl, rfl, rfl, by decide +kernel, rfl, by decide +kernel, by decide +kernel⟩
theorem sc_is_too_large : FnScope ["rows", "row", "signs", "least", "most"] ["rows"] (defScope s_is_too_large) := ⟨rfl, rfl, rfl, by decide +kernel, rfl, by decide +kernel, by decide +kernel⟩
theorem sc_alternative_net : FnScope ["row", "signs", "least", "most"] ["row"] (defScope s_alternative_net) := ⟨rfl, rfl, rfl, by decide +kernel, rfl, by decide +kernel, by decide +kernel⟩
theorem sc_Field_init_ : FnScope ["self", "name", "kind"] ["self", "name", "kind"] (defScope s_Field_init_) := ⟨rfl, rfl, rfl, by decide +kernel, rfl, by decide +kernel, by decide +kernel⟩
theorem sc_Field_eq_ : FnScope ["self", "other"] ["self", "other"] (defScope s_Field_eq_) := ⟨rfl, rfl, rfl, by decide +kernel, rfl, by decide +kernel, by decide +kernel⟩
theorem sc_Mark_init_ : FnScope ["self", "text"] ["self", "text"] (defScope s_Mark_init_) := ⟨rfl, rfl, rfl, by decide +kernel, rfl, by decide +kernel, by decide +kernel⟩
theorem sc_Mark_eq_ : FnScope ["self", "other"] ["self", "other"] (defScope s_Mark_eq_) := ⟨rfl, rfl, rfl, by decide +kernel, rfl, by decide +kernel, by decide +kernel⟩
theorem sc_Maybe_init_ : FnScope ["self", "parts", "at", "part"] ["self", "parts"] (defScope s_Maybe_init_) := ⟨rfl, rfl, rfl, by decide +kernel, rfl, by decide +kernel, by decide +kernel⟩
theorem sc_Maybe_eq_ : FnScope ["self", "other"] ["self", "other"] (defScope s_Maybe_eq_) := ⟨rfl, rfl, rfl, by decide +kernel, rfl, by decide +kernel, by decide +kernel⟩
theorem sc_is_field_kind : FnScope ["thing"] ["thing"] (defScope s_is_field_kind) := ⟨rfl, rfl, rfl, by decide +kernel, rfl, by decide +kernel, by decide +kernel⟩
theorem sc_is_item : FnScope ["thing"] ["thing"] (defScope s_is_item) := ⟨rfl, rfl, rfl, by decide +kernel, rfl, by decide +kernel, by decide +kernel⟩
theorem sc_has_own_field : FnScope ["row", "item"] ["row"] (defScope s_has_own_field) := ⟨rfl, rfl, rfl, by decide +kernel, rfl, by decide +kernel, by decide +kernel⟩
theorem sc_fields_in : FnScope ["row", "found", "item"] ["row"] (defScope s_fields_in) := ⟨rfl, rfl, rfl, by decide +kernel, rfl, by decide +kernel, by decide +kernel⟩
theorem sc_depth_around : FnScope ["parts", "part"] ["parts"] (defScope s_depth_around) := ⟨rfl, rfl, rfl, by decide +kernel, rfl, by decide +kernel, by decide +kernel⟩
theorem sc_item_size : FnScope ["item"] ["item"] (defScope s_item_size) := ⟨rfl, rfl, rfl, by decide +kernel, rfl, by decide +kernel, by decide +kernel⟩
theorem sc_row_size : FnScope ["row", "item"] ["row"] (defScope s_row_size) := ⟨rfl, rfl, rfl, by decide +kernel, rfl, by decide +kernel, by decide +kernel⟩
theorem sc_joined : FnScope ["row", "made", "item"] ["row"] (defScope s_joined) := ⟨rfl, rfl, rfl, by decide +kernel, rfl, by decide +kernel, by decide +kernel⟩
theorem sc_check_lines : FnScope ["lines", "seen", "at", "line", "field"] ["lines"] (defScope s_check_lines) := ⟨rfl, rfl, rfl, by decide +kernel, rfl, by decide +kernel, by decide +kernel⟩
theorem sc_is_item_row : FnScope ["thing", "item"] ["thing"] (defScope s_is_item_row) := ⟨rfl, rfl, rfl, by decide +kernel, rfl, by decide +kernel, by decide +kernel⟩
theorem sc_lines_size : FnScope ["lines", "line"] ["lines"] (defScope s_lines_size) := ⟨rfl, rfl, rfl, by decide +kernel, rfl, by decide +kernel, by decide +kernel⟩
theorem sc_lines_net : FnScope ["lines", "line"] ["lines"] (defScope s_lines_net) := ⟨rfl, rfl, rfl, by decide +kernel, rfl, by decide +kernel, by decide +kernel⟩
theorem sc_row_net : FnScope ["row", "item"] ["row"] (defScope s_row_net) := ⟨rfl, rfl, rfl, by decide +kernel, rfl, by decide +kernel, by decide +kernel⟩
theorem sc_item_net : FnScope ["item"] ["item"] (defScope s_item_net) := ⟨rfl, rfl, rfl, by decide +kernel, rfl, by decide +kernel, by decide +kernel⟩
theorem sc_lines_holders : FnScope ["lines", "holders", "line"] ["lines"] (defScope s_lines_holders) := ⟨rfl, rfl, rfl, by decide +kernel, rfl, by decide +kernel, by decide +kernel⟩
theorem sc_row_holders : FnScope ["row", "holders", "item", "name"] ["row"] (defScope s_row_holders) := ⟨rfl, rfl, rfl, by decide +kernel, rfl, by decide +kernel, by decide +kernel⟩
theorem sc_owner_sets : FnScope ["holders", "sets", "place", "name", "owner"] ["holders"] (defScope s_owner_sets) := ⟨rfl, rfl, rfl, by decide +kernel, rfl, by decide +kernel, by decide +kernel⟩
theorem sc_Form_init_ : FnScope ["self", "lines", "line", "field"] ["self", "lines"] (defScope s_Form_init_) := ⟨rfl, rfl, rfl, by decide +kernel, rfl, by decide +kernel, by decide +kernel⟩
theorem sc_Form_add_ : FnScope ["self", "other"] ["self", "other"] (defScope s_Form_add_) := ⟨rfl, rfl, rfl, by decide +kernel, rfl, by decide +kernel, by decide +kernel⟩
theorem sc_Form_eq_ : FnScope ["self", "other"] ["self", "other"] (defScope s_Form_eq_) := ⟨rfl, rfl, rfl, by decide +kernel, rfl, by decide +kernel, by decide +kernel⟩
theorem sc_Formplaces : FnScope ["self"] ["self"] (defScope s_Formplaces) := ⟨rfl, rfl, rfl, by decide +kernel, rfl, by decide +kernel, by decide +kernel⟩
theorem sc_l_bag : FnScope ["_law_script"] ["_law_script"] (defScope s_l_bag) := ⟨rfl, rfl, rfl, by decide +kernel, rfl, by decide +kernel, by decide +kernel⟩
theorem sc_l_draw : FnScope ["_law_bag_here", "_law_limit", "_law_cell", "_law_number", "_law_drawn", "_law_one"] ["_law_bag_here", "_law_limit"] (defScope s_l_draw) := ⟨rfl, rfl, rfl, by decide +kernel, rfl, by decide +kernel, by decide +kernel⟩
theorem sc_l_alphabet : FnScope ["_law_first"] [] (defScope s_l_alphabet) := ⟨rfl, rfl, rfl, by decide +kernel, rfl, by decide +kernel, by decide +kernel⟩
theorem sc_l_letters : FnScope ["_law_bag_here", "_law_many", "_law_rest", "_law_found", "_law_k"] ["_law_bag_here", "_law_many"] (defScope s_l_letters) := ⟨rfl, rfl, rfl, by decide +kernel, rfl, by decide +kernel, by decide +kernel⟩
theorem sc_l_signs : FnScope ["_law_bag_here", "_law_letters_here", "_law_code", "_law_k"] ["_law_bag_here", "_law_letters_here"] (defScope s_l_signs) := ⟨rfl, rfl, rfl, by decide +kernel, rfl, by decide +kernel, by decide +kernel⟩
theorem sc_l_run : FnScope ["_law_bag_here", "_law_letters_here", "_law_signs_here", "_law_least", "_law_extra"] ["_law_bag_here", "_law_letters_here"] (defScope s_l_run) := ⟨rfl, rfl, rfl, by decide +kernel, rfl, by decide +kernel, by decide +kernel⟩
theorem sc_l_rows : FnScope ["_law_bag_here", "_law_letters_here", "_law_rows_here", "_law_k", "_law_row_here", "_law_j", "_law_run_here"] ["_law_bag_here", "_law_letters_here"] (defScope s_l_rows) := ⟨rfl, rfl, rfl, by decide +kernel, rfl, by decide +kernel, by decide +kernel⟩
theorem sc_l_names : FnScope ["_law_bag_here", "_law_many", "_law_found", "_law_k", "_law_word", "_law_j"] ["_law_bag_here", "_law_many"] (defScope s_l_names) := ⟨rfl, rfl, rfl, by decide +kernel, rfl, by decide +kernel, by decide +kernel⟩
theorem sc_l_row : FnScope ["_law_bag_here", "_law_letters_here", "_law_names_here", "_law_deep", "_law_row_here", "_law_k", "_law_pick", "_law_own", "_law_more", "_law_j", "_law_text"] ["_law_bag_here", "_law_letters_here", "_law_names_here", "_law_deep"] (defScope s_l_row) := ⟨rfl, rfl, rfl, by decide +kernel, rfl, by decide +kernel, by decide +kernel⟩
theorem sc_l_lines : FnScope ["_law_bag_here", "_law_many", "_law_letters_here", "_law_names_here", "_law_lines_here", "_law_k"] ["_law_bag_here", "_law_many"] (defScope s_l_lines) := ⟨rfl, rfl, rfl, by decide +kernel, rfl, by decide +kernel, by decide +kernel⟩
theorem sc_l_kind : FnScope ["_law_rows_here", "_law_kind_here", "_law_row_here", "_law_one", "_law_signs_here", "_law_least", "_law_top"] ["_law_rows_here"] (defScope s_l_kind) := ⟨rfl, rfl, rfl, by decide +kernel, rfl, by decide +kernel, by decide +kernel⟩
theorem sc_l_items : FnScope ["_law_row_here", "_law_found", "_law_item"] ["_law_row_here"] (defScope s_l_items) := ⟨rfl, rfl, rfl, by decide +kernel, rfl, by decide +kernel, by decide +kernel⟩
theorem sc_l_make : FnScope ["_law_lines_here", "_law_line"] ["_law_lines_here"] (defScope s_l_make) := ⟨rfl, rfl, rfl, by decide +kernel, rfl, by decide +kernel, by decide +kernel⟩
theorem sc_l_kept : FnScope ["_law_rows_here", "_law_found", "_law_row_here"] ["_law_rows_here"] (defScope s_l_kept) := ⟨rfl, rfl, rfl, by decide +kernel, rfl, by decide +kernel, by decide +kernel⟩
theorem sc_l_kind_places : FnScope ["_law_rows_here", "_law_found", "_law_row_here", "_law_signs_here", "_law_least", "_law_top", "_law_many"] ["_law_rows_here"] (defScope s_l_kind_places) := ⟨rfl, rfl, rfl, by decide +kernel, rfl, by decide +kernel, by decide +kernel⟩
theorem sc_l_row_places : FnScope ["_law_row_here", "_law_found", "_law_item", "_law_signs_here", "_law_sign"] ["_law_row_here"] (defScope s_l_row_places) := ⟨rfl, rfl, rfl, by decide +kernel, rfl, by decide +kernel, by decide +kernel⟩
theorem sc_l_is_places : FnScope ["_law_told", "_law_place"] ["_law_told"] (defScope s_l_is_places) := ⟨rfl, rfl, rfl, by decide +kernel, rfl, by decide +kernel, by decide +kernel⟩
theorem sc_law : FnScope ["_law_script", "_law_bag_here", "_law_lines_here", "_law_form", "_law_due", "_law_joined", "_law_line", "_law_told"] ["_law_script"] (defScope s_law) := ⟨rfl, rfl, rfl, by decide +kernel, rfl, by decide +kernel, by decide +kernel⟩
/-! ### what the top leaves -/
def d_is_integer : He.DefD := ⟨("is_integer", none), "is_integer", "is_integer", defArgs s_is_integer, defBody s_is_integer, defScope s_is_integer, [], []⟩
def d_is_integer_within : He.DefD := ⟨("is_integer_within", none), "is_integer_within", "is_integer_within", defArgs s_is_integer_within, defBody s_is_integer_within, defScope s_is_integer_within, [], []⟩
def d_is_row : He.DefD := ⟨("is_row", none), "is_row", "is_row", defArgs s_is_row, defBody s_is_row, defScope s_is_row, [], []⟩
def d_is_name : He.DefD := ⟨("is_name", none), "is_name", "is_name", defArgs s_is_name, defBody s_is_name, defScope s_is_name, [], []⟩
def d_Net_init_ : He.DefD := ⟨("Net", some "__init__"), "__init__", "Net.__init__", defArgs s_Net_init_, defBody s_Net_init_, defScope s_Net_init_, [], []⟩
def d_places_by_char : He.DefD := ⟨("places_by_char", none), "places_by_char", "places_by_char", defArgs s_places_by_char, defBody s_places_by_char, defScope s_places_by_char, [], []⟩
def d_place_count : He.DefD := ⟨("place_count", none), "place_count", "place_count", defArgs s_place_count, defBody s_place_count, defScope s_place_count, [], []⟩
def d_run_net : He.DefD := ⟨("run_net", none), "run_net", "run_net", defArgs s_run_net, defBody s_run_net, defScope s_run_net, [], []⟩
def d_text_net : He.DefD := ⟨("text_net", none), "text_net", "text_net", defArgs s_text_net, defBody s_text_net, defScope s_text_net, [], []⟩
def d_or_nothing : He.DefD := ⟨("or_nothing", none), "or_nothing", "or_nothing", defArgs s_or_nothing, defBody s_or_nothing, defScope s_or_nothing, [], []⟩
def d_renumbered : He.DefD := ⟨("renumbered", none), "renumbered", "renumbered", defArgs s_renumbered, defBody s_renumbered, defScope s_renumbered, [], []⟩
def d_chained : He.DefD := ⟨("chained", none), "chained", "chained", defArgs s_chained, defBody s_chained, defScope s_chained, [], []⟩
def d_side_by_side : He.DefD := ⟨("side_by_side", none), "side_by_side", "side_by_side", defArgs s_side_by_side, defBody s_side_by_side, defScope s_side_by_side, [], []⟩
def d_line_added : He.DefD := ⟨("line_added", none), "line_added", "line_added", defArgs s_line_added, defBody s_line_added, defScope s_line_added, [], []⟩
def d_under_each_other : He.DefD := ⟨("under_each_other", none), "under_each_other", "under_each_other", defArgs s_under_each_other, defBody s_under_each_other, defScope s_under_each_other, [], []⟩
def d_stand_from : He.DefD := ⟨("stand_from", none), "stand_from", "stand_from", defArgs s_stand_from, defBody s_stand_from, defScope s_stand_from, [], []⟩
def d_stand_after : He.DefD := ⟨("stand_after", none), "stand_after", "stand_after", defArgs s_stand_after, defBody s_stand_after, defScope s_stand_after, [], []⟩
def d_takes : He.DefD := ⟨("takes", none), "takes", "takes", defArgs s_takes, defBody s_takes, defScope s_takes, [], []⟩
def d_Signs_init_ : He.DefD := ⟨("Signs", some "__init__"), "__init__", "Signs.__init__", defArgs s_Signs_init_, defBody s_Signs_init_, defScope s_Signs_init_, [.str ""], []⟩
def d_is_sign_text : He.DefD := ⟨("is_sign_text", none), "is_sign_text", "is_sign_text", defArgs s_is_sign_text, defBody s_is_sign_text, defScope s_is_sign_text, [], []⟩
def d_is_signs : He.DefD := ⟨("is_signs", none), "is_signs", "is_signs", defArgs s_is_signs, defBody s_is_signs, defScope s_is_signs, [], []⟩
def d_signs_of : He.DefD := ⟨("signs_of", none), "signs_of", "signs_of", defArgs s_signs_of, defBody s_signs_of, defScope s_signs_of, [], []⟩
def d_Kind_init_ : He.DefD := ⟨("Kind", some "__init__"), "__init__", "Kind.__init__", defArgs s_Kind_init_, defBody s_Kind_init_, defScope s_Kind_init_, [], []⟩
def d_Kindrun : He.DefD := ⟨("Kind", some "run"), "run", "Kind.run", defArgs s_Kindrun, defBody s_Kindrun, defScope s_Kindrun, [.int 1, .int 1], []⟩
def d_Kind_add_ : He.DefD := ⟨("Kind", some "__add__"), "__add__", "Kind.__add__", defArgs s_Kind_add_, defBody s_Kind_add_, defScope s_Kind_add_, [], []⟩
def d_Kind_or_ : He.DefD := ⟨("Kind", some "__or__"), "__or__", "Kind.__or__", defArgs s_Kind_or_, defBody s_Kind_or_, defScope s_Kind_or_, [], []⟩
def d_Kind_eq_ : He.DefD := ⟨("Kind", some "__eq__"), "__eq__", "Kind.__eq__", defArgs s_Kind_eq_, defBody s_Kind_eq_, defScope s_Kind_eq_, [], []⟩
def d_Kindhas_empty : He.DefD := ⟨("Kind", some "has_empty"), "has_empty", "Kind.has_empty", defArgs s_Kindhas_empty, defBody s_Kindhas_empty, defScope s_Kindhas_empty, [], []⟩
def d_are_bounds : He.DefD := ⟨("are_bounds", none), "are_bounds", "are_bounds", defArgs s_are_bounds, defBody s_are_bounds, defScope s_are_bounds, [], []⟩
def d_without_repeats : He.DefD := ⟨("without_repeats", none), "without_repeats", "without_repeats", defArgs s_without_repeats, defBody s_without_repeats, defScope s_without_repeats, [], []⟩
def d_is_too_large : He.DefD := ⟨("is_too_large", none), "is_too_large", "is_too_large", defArgs s_is_too_large, defBody s_is_too_large, defScope s_is_too_large, [], []⟩
def d_alternative_net : He.DefD := ⟨("alternative_net", none), "alternative_net", "alternative_net", defArgs s_alternative_net, defBody s_alternative_net, defScope s_alternative_net, [], []⟩
def d_Field_init_ : He.DefD := ⟨("Field", some "__init__"), "__init__", "Field.__init__", defArgs s_Field_init_, defBody s_Field_init_, defScope s_Field_init_, [], []⟩
def d_Field_eq_ : He.DefD := ⟨("Field", some "__eq__"), "__eq__", "Field.__eq__", defArgs s_Field_eq_, defBody s_Field_eq_, defScope s_Field_eq_, [], []⟩
def d_Mark_init_ : He.DefD := ⟨("Mark", some "__init__"), "__init__", "Mark.__init__", defArgs s_Mark_init_, defBody s_Mark_init_, defScope s_Mark_init_, [], []⟩
def d_Mark_eq_ : He.DefD := ⟨("Mark", some "__eq__"), "__eq__", "Mark.__eq__", defArgs s_Mark_eq_, defBody s_Mark_eq_, defScope s_Mark_eq_, [], []⟩
def d_Maybe_init_ : He.DefD := ⟨("Maybe", some "__init__"), "__init__", "Maybe.__init__", defArgs s_Maybe_init_, defBody s_Maybe_init_, defScope s_Maybe_init_, [], []⟩
def d_Maybe_eq_ : He.DefD := ⟨("Maybe", some "__eq__"), "__eq__", "Maybe.__eq__", defArgs s_Maybe_eq_, defBody s_Maybe_eq_, defScope s_Maybe_eq_, [], []⟩
def d_is_field_kind : He.DefD := ⟨("is_field_kind", none), "is_field_kind", "is_field_kind", defArgs s_is_field_kind, defBody s_is_field_kind, defScope s_is_field_kind, [], []⟩
def d_is_item : He.DefD := ⟨("is_item", none), "is_item", "is_item", defArgs s_is_item, defBody s_is_item, defScope s_is_item, [], []⟩
def d_has_own_field : He.DefD := ⟨("has_own_field", none), "has_own_field", "has_own_field", defArgs s_has_own_field, defBody s_has_own_field, defScope s_has_own_field, [], []⟩
def d_fields_in : He.DefD := ⟨("fields_in", none), "fields_in", "fields_in", defArgs s_fields_in, defBody s_fields_in, defScope s_fields_in, [], []⟩
def d_depth_around : He.DefD := ⟨("depth_around", none), "depth_around", "depth_around", defArgs s_depth_around, defBody s_depth_around, defScope s_depth_around, [], []⟩
def d_item_size : He.DefD := ⟨("item_size", none), "item_size", "item_size", defArgs s_item_size, defBody s_item_size, defScope s_item_size, [], []⟩
def d_row_size : He.DefD := ⟨("row_size", none), "row_size", "row_size", defArgs s_row_size, defBody s_row_size, defScope s_row_size, [], []⟩
def d_joined : He.DefD := ⟨("joined", none), "joined", "joined", defArgs s_joined, defBody s_joined, defScope s_joined, [], []⟩
def d_check_lines : He.DefD := ⟨("check_lines", none), "check_lines", "check_lines", defArgs s_check_lines, defBody s_check_lines, defScope s_check_lines, [], []⟩
def d_is_item_row : He.DefD := ⟨("is_item_row", none), "is_item_row", "is_item_row", defArgs s_is_item_row, defBody s_is_item_row, defScope s_is_item_row, [], []⟩
def d_lines_size : He.DefD := ⟨("lines_size", none), "lines_size", "lines_size", defArgs s_lines_size, defBody s_lines_size, defScope s_lines_size, [], []⟩
def d_lines_net : He.DefD := ⟨("lines_net", none), "lines_net", "lines_net", defArgs s_lines_net, defBody s_lines_net, defScope s_lines_net, [], []⟩
def d_row_net : He.DefD := ⟨("row_net", none), "row_net", "row_net", defArgs s_row_net, defBody s_row_net, defScope s_row_net, [], []⟩
def d_item_net : He.DefD := ⟨("item_net", none), "item_net", "item_net", defArgs s_item_net, defBody s_item_net, defScope s_item_net, [], []⟩
def d_lines_holders : He.DefD := ⟨("lines_holders", none), "lines_holders", "lines_holders", defArgs s_lines_holders, defBody s_lines_holders, defScope s_lines_holders, [], []⟩
def d_row_holders : He.DefD := ⟨("row_holders", none), "row_holders", "row_holders", defArgs s_row_holders, defBody s_row_holders, defScope s_row_holders, [], []⟩
def d_owner_sets : He.DefD := ⟨("owner_sets", none), "owner_sets", "owner_sets", defArgs s_owner_sets, defBody s_owner_sets, defScope s_owner_sets, [], []⟩
def d_Form_init_ : He.DefD := ⟨("Form", some "__init__"), "__init__", "Form.__init__", defArgs s_Form_init_, defBody s_Form_init_, defScope s_Form_init_, [], []⟩
def d_Form_add_ : He.DefD := ⟨("Form", some "__add__"), "__add__", "Form.__add__", defArgs s_Form_add_, defBody s_Form_add_, defScope s_Form_add_, [], []⟩
def d_Form_eq_ : He.DefD := ⟨("Form", some "__eq__"), "__eq__", "Form.__eq__", defArgs s_Form_eq_, defBody s_Form_eq_, defScope s_Form_eq_, [], []⟩
def d_Formplaces : He.DefD := ⟨("Form", some "places"), "places", "Form.places", defArgs s_Formplaces, defBody s_Formplaces, defScope s_Formplaces, [], []⟩
def d_l_bag : He.DefD := ⟨("_law_bag", none), "_law_bag", "_law_bag", defArgs s_l_bag, defBody s_l_bag, defScope s_l_bag, [], []⟩
def d_l_draw : He.DefD := ⟨("_law_draw", none), "_law_draw", "_law_draw", defArgs s_l_draw, defBody s_l_draw, defScope s_l_draw, [], []⟩
def d_l_alphabet : He.DefD := ⟨("_law_alphabet", none), "_law_alphabet", "_law_alphabet", defArgs s_l_alphabet, defBody s_l_alphabet, defScope s_l_alphabet, [], []⟩
def d_l_letters : He.DefD := ⟨("_law_letters", none), "_law_letters", "_law_letters", defArgs s_l_letters, defBody s_l_letters, defScope s_l_letters, [], []⟩
def d_l_signs : He.DefD := ⟨("_law_signs", none), "_law_signs", "_law_signs", defArgs s_l_signs, defBody s_l_signs, defScope s_l_signs, [], []⟩
def d_l_run : He.DefD := ⟨("_law_run", none), "_law_run", "_law_run", defArgs s_l_run, defBody s_l_run, defScope s_l_run, [], []⟩
def d_l_rows : He.DefD := ⟨("_law_rows", none), "_law_rows", "_law_rows", defArgs s_l_rows, defBody s_l_rows, defScope s_l_rows, [], []⟩
def d_l_names : He.DefD := ⟨("_law_names", none), "_law_names", "_law_names", defArgs s_l_names, defBody s_l_names, defScope s_l_names, [], []⟩
def d_l_row : He.DefD := ⟨("_law_row", none), "_law_row", "_law_row", defArgs s_l_row, defBody s_l_row, defScope s_l_row, [], []⟩
def d_l_lines : He.DefD := ⟨("_law_lines", none), "_law_lines", "_law_lines", defArgs s_l_lines, defBody s_l_lines, defScope s_l_lines, [], []⟩
def d_l_kind : He.DefD := ⟨("_law_kind", none), "_law_kind", "_law_kind", defArgs s_l_kind, defBody s_l_kind, defScope s_l_kind, [], []⟩
def d_l_items : He.DefD := ⟨("_law_items", none), "_law_items", "_law_items", defArgs s_l_items, defBody s_l_items, defScope s_l_items, [], []⟩
def d_l_make : He.DefD := ⟨("_law_make", none), "_law_make", "_law_make", defArgs s_l_make, defBody s_l_make, defScope s_l_make, [], []⟩
def d_l_kept : He.DefD := ⟨("_law_kept", none), "_law_kept", "_law_kept", defArgs s_l_kept, defBody s_l_kept, defScope s_l_kept, [], []⟩
def d_l_kind_places : He.DefD := ⟨("_law_kind_places", none), "_law_kind_places", "_law_kind_places", defArgs s_l_kind_places, defBody s_l_kind_places, defScope s_l_kind_places, [], []⟩
def d_l_row_places : He.DefD := ⟨("_law_row_places", none), "_law_row_places", "_law_row_places", defArgs s_l_row_places, defBody s_l_row_places, defScope s_l_row_places, [], []⟩
def d_l_is_places : He.DefD := ⟨("_law_is_places", none), "_law_is_places", "_law_is_places", defArgs s_l_is_places, defBody s_l_is_places, defScope s_l_is_places, [], []⟩
def d_law : He.DefD := ⟨("law", none), "law", "law", defArgs s_law, defBody s_law, defScope s_law, [], []⟩
def fn : List He.DefD := [d_is_integer, d_is_integer_within, d_is_row, d_is_name, d_Net_init_, d_places_by_char, d_place_count, d_run_net, d_text_net, d_or_nothing, d_renumbered, d_chained, d_side_by_side, d_line_added, d_under_each_other, d_stand_from, d_stand_after, d_takes, d_Signs_init_, d_is_sign_text, d_is_signs, d_signs_of, d_Kind_init_, d_Kind_add_, d_Kind_or_, d_Kind_eq_, d_are_bounds, d_without_repeats, d_is_too_large, d_alternative_net, d_Field_init_, d_Field_eq_, d_Mark_init_, d_Mark_eq_, d_Maybe_init_, d_Maybe_eq_, d_is_field_kind, d_is_item, d_has_own_field, d_fields_in, d_depth_around, d_item_size, d_row_size, d_joined, d_check_lines, d_is_item_row, d_lines_size, d_lines_net, d_row_net, d_item_net, d_lines_holders, d_row_holders, d_owner_sets, d_Form_init_, d_Form_add_, d_Form_eq_, d_Formplaces, d_l_bag, d_l_draw, d_l_alphabet, d_l_letters, d_l_signs, d_l_run, d_l_rows, d_l_names, d_l_row, d_l_lines, d_l_kind, d_l_items, d_l_make, d_l_kept, d_l_kind_places, d_l_row_places, d_l_is_places, d_law]
def sd : List Tl.StD := [⟨"Kind", "run", d_Kindrun⟩]
def pd : List Tl.PrD := [⟨"Kind", "has_empty", d_Kindhas_empty⟩]
def fa : List He.Fa := [.glo "is_integer", .glo "is_integer_within", .glo "is_row", .glo "is_name", .glo "places_by_char", .glo "place_count", .glo "run_net", .glo "text_net", .glo "or_nothing", .glo "renumbered", .glo "chained", .glo "side_by_side", .glo "line_added", .glo "under_each_other", .glo "stand_from", .glo "stand_after", .glo "takes", .glo "is_sign_text", .glo "is_signs", .glo "signs_of", .glo "are_bounds", .glo "without_repeats", .glo "is_too_large", .glo "alternative_net", .glo "is_field_kind", .glo "is_item", .glo "has_own_field", .glo "fields_in", .glo "depth_around", .glo "item_size", .glo "row_size", .glo "joined", .glo "check_lines", .glo "is_item_row", .glo "lines_size", .glo "lines_net", .glo "row_net", .glo "item_net", .glo "lines_holders", .glo "row_holders", .glo "owner_sets", .glo "_law_bag", .glo "_law_draw", .glo "_law_alphabet", .glo "_law_letters", .glo "_law_signs", .glo "_law_run", .glo "_law_rows", .glo "_law_names", .glo "_law_row", .glo "_law_lines", .glo "_law_kind", .glo "_law_items", .glo "_law_make", .glo "_law_kept", .glo "_law_kind_places", .glo "_law_row_places", .glo "_law_is_places", .glo "law", .glo "Signs", .cls "Signs", .mkr "Signs", .meth "Signs" "__init__", .noat "Signs" "signs", .glo "Net", .cls "Net", .mkr "Net", .meth "Net" "__init__", .noat "Net" "chars", .noat "Net" "follow", .noat "Net" "exits", .noat "Net" "stands_for", .glo "Kind", .cls "Kind", .mkr "Kind", .meth "Kind" "__init__", .meth "Kind" "__add__", .meth "Kind" "__or__", .meth "Kind" "__eq__", .noat "Kind" "rows", .noat "Kind" "net", .glo "Field", .cls "Field", .mkr "Field", .meth "Field" "__init__", .meth "Field" "__eq__", .noat "Field" "name", .noat "Field" "kind", .glo "Mark", .cls "Mark", .mkr "Mark", .meth "Mark" "__init__", .meth "Mark" "__eq__", .noat "Mark" "text", .glo "Maybe", .cls "Maybe", .mkr "Maybe", .meth "Maybe" "__init__", .meth "Maybe" "__eq__", .noat "Maybe" "parts", .glo "Form", .cls "Form", .mkr "Form", .meth "Form" "__init__", .meth "Form" "__add__", .meth "Form" "__eq__", .meth "Form" "places", .noat "Form" "lines", .noat "Form" "fields", .noat "Form" "net", .noat "Form" "holders", .noat "Form" "owner_sets", .glo "BadKind", .exc "BadKind", .free "isinstance", .free "int", .free "bool", .free "list", .free "tuple", .free "str", .free "all", .free "any", .free "sum", .free "len", .free "enumerate", .free "range", .free "max", .free "sorted", .free "min", .free "zip", .int "START" 1, .int "MOST_ALTERNATIVES" 20, .int "MOST_RUNS" 20, .int "MOST_PLACES_kinds" 120, .int "HIGHEST_BOUND" 40, .int "LONGEST_NAME" 12, .int "LONGEST_MARK" 200, .int "DEEPEST_GROUP" 3, .int "MOST_PLACES_items" 200, .int "MOST_LINES" 10, .int "MOST_FIELDS" 12, .str "SIGNS" " !\"#$&'()*+,-./0123456789:;<=>?@ABCDEFGHIJKLMNOPQRSTUVWXYZ[\\]^_`abcdefghijklmnopqrstuvwxyz{|}~", .str "FEED" "\n", .free "ValueError"]
def ex (K : PySem.W.Frag) : Bool := (Tl.famB K [He.ga K "Signs", He.ga K "Kind", He.ga K "Field", He.ga K "Mark", He.ga K "Maybe", He.ga K "Form"] && (Tl.seesB K (He.ga K "Signs") && Tl.seesB K (He.ga K "Kind"))) && (Tl.apartB K (He.ga K "Signs") (He.ga K "Kind") && (decide (PySem.W.selfFirst K (He.ga K "Kind") = true) && decide (PySem.W.selfFirst K (He.ga K "Form") = true)))
abbrev R : PySem.W.OpenRow := PySem.W.OpenLaw.row PySem.Challenge.rw_townlines_k14_places
abbrev hk : PySem.W.Hook := Tl.hookQ fa fn sd pd ex
def ob (s : PySem.W.SharedT) : Tl.AlP := Tl.obsQ fa fn sd pd ex (HandSHeadRun.getT s)
theorem ob_eq (s : PySem.W.SharedT) : ob s = hk.obs s.abs := Tl.obsQ_eq (HandSHeadRun.getT_eq s)
abbrev loose : List PySem.Str := (["_wall", "__name__", "LONGEST_NAME", "is_integer", "is_integer_within", "is_row", "is_name", "text_order", "TownError", "BadSigns", "BadKind", "TooLarge", "BadItem", "BadForm", "BadName", "Unknown", "Missing", "BadValue", "BadNumber", "START", "FEED", "Net", "places_by_char", "place_count", "run_net", "text_net", "or_nothing", "renumbered", "chained", "side_by_side"] : List PySem.Str) ++ (["line_added", "under_each_other", "indexes_in", "places_in", "together", "places_after", "stand_from", "stand_after", "takes", "SIGNS", "Signs", "is_sign", "is_sign_text", "is_signs", "signs_of", "kept_signs", "other_signs", "MOST_ALTERNATIVES", "MOST_RUNS", "MOST_PLACES_kinds", "MOST_TEXTS", "LONGEST_TEXT_kinds", "HIGHEST_BOUND", "MOST_OPERANDS", "Kind", "are_bounds", "is_short_text", "without_repeats", "is_too_large", "alternative_net"] : List PySem.Str) ++ (["least_word", "LONGEST_MARK", "DEEPEST_GROUP", "MOST_PLACES_items", "Field", "Mark", "Maybe", "is_field_kind", "is_item", "has_own_field", "fields_in", "depth_around", "item_size", "row_size", "joined", "MOST_LINES", "MOST_FIELDS", "check_lines", "is_item_row", "lines_size", "lines_net", "row_net", "item_net", "lines_holders", "row_holders", "owner_sets", "row_without", "LONGEST_TEXT_characters", "written_pieces", "check_record"] : List PySem.Str) ++ (["missing_names", "has_some_field", "row_pieces", "Form", "check_known", "_law_bag", "_law_draw", "_law_alphabet", "_law_letters", "_law_signs", "_law_run", "_law_rows", "_law_names", "_law_row", "_law_lines", "_law_kind", "_law_items", "_law_make", "_law_kept", "_law_kind_places", "_law_row_places", "_law_is_places"] : List PySem.Str)
section
open PySem.W PySem.Calls
/-- the state behind the top -/
noncomputable abbrev topEnd (w : World) (os : OsState) : Option SharedT := HandSHeadRun.endF (HandSHeadRun.stepQ (HandSHeadRun.denQ HandSHeadRun.tabQ) R.prog w) 60000 R.prog w os
theorem glue {α β γ δ : Type} {X : Option α} {f : α → β} {g : α → γ} {h : α → δ} {b : β} {c : γ} {d : δ} (h1 : X.map (fun s => (f s, g s)) = some (b, c)) (h2 : X.map h = some d) : X.map (fun s => (f s, g s, h s)) = some (b, c, d) := by
  cases X with
  | none => cases h1
  | some s =>
    have e1 : (f s, g s) = (b, c) := Option.some.inj h1
    have e2 : h s = d := Option.some.inj h2
    show some (f s, g s, h s) = some (b, c, d)
    injection e1 with e3 e4
    rw [e2, e3, e4]
set_option maxHeartbeats 0 in
theorem run1 (w : World) (os : OsState) : (topEnd w os).map (fun s => (HandSHeadRun.looksF R.prog (boot_heap w.params) s.abs, HandSHeadRun.seenQ (view R.prog [121]) loose (importedModules R.prog.main.body) (fun s => xlAt (view R.prog [121]) [] s && recOk R.toRowW.records s) s.abs)) = some (true, openGood (view R.prog [121]) loose) := by
  kernel_rfl
set_option maxHeartbeats 0 in
theorem run2 (w : World) (os : OsState) : (topEnd w os).map ob = some (hk.val w) := by
  kernel_rfl
end
end K14

set_option autoImplicit false
set_option maxErrors 4
namespace K14
open PySem PySem.Spec PyProof.Rows L2
theorem run (w : World) : HandSHeadRun.RunEq R (PySem.W.view R.prog [121]) hk ob 60000 loose w := fun os => glue (run1 w os) (run2 w os)
end K14

/-! Texts as lists of codes: list(text), text * n, join of signs. -/
namespace Tl
open PySem PySem.Spec PyProof.Rows L2
/-- the text of these codes -/
def tx (l : List Nat) : Str := ⟨l.toArray⟩
def cs (z : Str) : List Nat := z.cps.toList
/-- the text of one sign -/
def sg (n : Nat) : Str := ⟨#[n]⟩
theorem cs_tx (l : List Nat) : cs (tx l) = l := rfl
theorem tx_cs (z : Str) : tx (cs z) = z := by
  obtain ⟨⟨l⟩⟩ := z
  rfl
theorem tx_inj {l k : List Nat} (h : tx l = tx k) : l = k := congrArg cs h
theorem tx_eq {l k : List Nat} : tx l = tx k ↔ l = k := ⟨tx_inj, fun e => by rw [e]⟩
theorem len_tx (l : List Nat) : (tx l).length = l.length := rfl
theorem len_cs (z : Str) : (cs z).length = z.length := Array.length_toList
theorem sg_inj {n m : Nat} (h : sg n = sg m) : n = m := by
  have e : [n] = [m] := congrArg cs h
  injection e
theorem tx_app (l k : List Nat) : tx l ++ tx k = tx (l ++ k) := by
  show (⟨l.toArray ++ k.toArray⟩ : Str) = ⟨(l ++ k).toArray⟩
  rw [List.append_toArray]
theorem glue_sg : ∀ (l : List Nat) (a : Array Nat), (l.map sg).foldl (fun acc p => acc ++ (tx []).cps ++ p.cps) a = a ++ l.toArray
  | [], a => by simp
  | n :: l, a => by
    rw [List.map_cons, List.foldl_cons, glue_sg l]
    simp [tx, sg]
theorem join_sg (l : List Nat) : Txt.join (tx []) (l.map sg) = tx l := by
  cases l with
  | nil => rfl
  | cons n l =>
    show (⟨((List.map sg (n :: l)).drop 1).foldl _ _⟩ : Str) = _
    rw [List.map_cons, List.drop_one, List.tail_cons, glue_sg]
    show (⟨#[n] ++ l.toArray⟩ : Str) = ⟨(n :: l).toArray⟩
    congr 1
    simp
theorem sum_sg (l : List Nat) : ((l.map sg).map (·.length)).sum = l.length := by
  induction l with
  | nil => rfl
  | cons n l ih =>
    rw [List.map_cons, List.map_cons, List.sum_cons, ih, List.length_cons]
    show 1 + l.length = l.length + 1
    omega
theorem fold_rep (x : Array Nat) : ∀ (k : Nat) (a : Array Nat), ((List.replicate k x).foldl (· ++ ·) a).toList = a.toList ++ (List.replicate k x.toList).flatten
  | 0, a => by simp
  | k + 1, a => by
    rw [List.replicate_succ, List.foldl_cons, fold_rep x k, List.replicate_succ, List.flatten_cons, Array.toList_append, List.append_assoc]
theorem mul_cs (z : Str) (k : Nat) : cs (Txt.mul z (k : Int)) = (List.replicate k (cs z)).flatten := by
  unfold Txt.mul
  by_cases h0 : (k : Int) < 1
  · rw [if_pos h0]
    have e : k = 0 := by omega
    subst e
    rfl
  · rw [if_neg h0]
    by_cases h1 : ((k : Int) == 1 || z.length == 0) = true
    · rw [if_pos h1]
      rcases Bool.or_eq_true_iff.mp h1 with e | e
      · have e : k = 1 := by
          have := beq_iff_eq.mp e
          omega
        subst e
        show cs z = (List.replicate 1 (cs z)).flatten
        simp [List.replicate]
      · have e1 : cs z = [] := by
          apply List.eq_nil_of_length_eq_zero
          rw [len_cs]
          exact beq_iff_eq.mp e
        rw [e1]
        induction k with
        | zero => rfl
        | succ k ih => simp
    · rw [if_neg h1]
      show ((List.replicate (k : Int).toNat z.cps).foldl (· ++ ·) #[]).toList = _
      rw [fold_rep, Int.toNat_natCast]
      rfl
section
variable {X : Cx}
/-- list(z), z a text -/
theorem call_listTx (hc : X.calm = true) : CallR X (.type "list") (fun vs H Q => ∃ l : List Nat, vs = [.str (tx l)] ∧ l.length ≤ sizeLine ∧ ∀ p, H p = none → Q (.ref p) (upd H p (.lst (l.map fun n => V.str (sg n))))) := by
  intro pins s σ H vs us Q I r h
  obtain ⟨l, rfl, hz, q⟩ := h
  obtain ⟨u, rfl, rx⟩ := vals1 r
  obtain ⟨t, rfl⟩ := rx
  refine call_list_str (I.ok.hd hc) (tx l) t (hn := hz) fun hq tk acc c hk hS hacc => ?_
  have hv : Vals (l.map fun n => V.str (sg n)) acc.toList := by
    have key : ∀ (k : List Nat) (us : List Value), us.length = k.length → (∀ (j : Nat) (v : Value), us[j]? = some v → ∃ (n : Nat) (u : Tok), k[j]? = some n ∧ v = Value.str (sg n) u) → Vals (k.map fun n => V.str (sg n)) us := by
      intro k
      induction k with
      | nil =>
        intro us hl _
        cases us with
        | nil => exact .nil
        | cons _ _ => cases hl
      | cons n k ih =>
        intro us hl h
        cases us with
        | nil => cases hl
        | cons v us =>
          obtain ⟨n', u, e1, e2⟩ := h 0 v rfl
          have e : n = n' := Option.some.inj e1
          subst e
          exact .cons ⟨u, e2⟩ (ih us (Nat.succ.inj hl) fun j v e => h (j + 1) v e)
    refine key l acc.toList (by rw [Array.length_toList]; exact hacc.1) fun j v e => ?_
    obtain ⟨n, u, e1, e2⟩ := hacc.2 j v (by rw [← Array.getElem?_toList]; exact e)
    exact ⟨n, u, by rw [← e1]; simp [tx], e2⟩
  exact ⟨.ref s.heap.objs.size, _, I.laid (t' := tk) hk (Nat.le_refl _) (show ObjOk X.prog X.w _ hq _ (.lst (l.map fun n => V.str (sg n))) from ⟨by rw [List.length_map]; exact hz, acc.toList, c, hv, by rw [Array.toArray_toList]; exact hS⟩), rfl, q _ (I.hok.fresh (Nat.le_refl _))⟩
/-- z * k -/
theorem op_mulTx : OpR X (binaryOp .Mult) (fun x y H Q => ∃ (l : List Nat) (k : Nat), x = .str (tx l) ∧ y = .int k ∧ k ≤ 1000000 ∧ l.length * k ≤ 16777216 ∧ Q (.str (tx (List.replicate k l).flatten)) H) := by
  intro pins s σ H x y v u Q I rx ry h
  obtain ⟨l, k, rfl, rfl, hk, hl, q⟩ := h
  obtain ⟨t, rfl⟩ := rx
  obtain ⟨t', rfl⟩ := ry
  have e : Txt.mul (tx l) (k : Int) = tx (List.replicate k l).flatten := by
    rw [← tx_cs (Txt.mul (tx l) (k : Int)), mul_cs, cs_tx]
  refine PySem.SB.mul (x := tx l) (n := (k : Int)) ⟨?_, fun h1 _ => ?_, fun h1 _ => ?_⟩ fun t2 tk => ?_
  · rw [decide_eq_false (by omega), decide_eq_false (by omega)]
    rfl
  · rw [len_tx]
    have h2 : 1 ≤ (k : Int) := by omega
    have h3 : (l.length : Int) ≤ 16777216 := by
      have : l.length ≤ l.length * k := Nat.le_mul_of_pos_right _ (by omega)
      omega
    have h4 : (16777216 : Int) ≤ (2 ^ 63 - 1) / (k : Int) := by
      apply Int.le_ediv_of_mul_le (by omega)
      omega
    omega
  · unfold Builtin.Str.tooLong
    rw [len_tx, Int.toNat_natCast, sizeLine_eq]
    exact decide_eq_false (by omega)
  · rw [e]
    exact ⟨.str (tx (List.replicate k l).flatten), H, I.tok tk, ⟨t2, rfl⟩, q⟩
end
end Tl

namespace K14
open PySem PySem.Spec PyProof.Rows L2 Tl
/-- a def of no defaults as the top leaves it -/
abbrev FnP (K : PySem.W.Frag) (x qual : Str) (st : Stmt) (f : Addr) (fd : FuncData) : Prop := FunD K x qual (defArgs st) (defBody st) (defScope st) [] [] f fd
/-! ### the bag that is drawn from -/
def bagL (c : Addr) (n m k : Int) : List V := [.ref c, .int n, .int m, .int k]
structure Bag (H : Hp) (b c : Addr) : Prop where
  top : ∃ n m k : Int, H b = some (.lst (bagL c n m k))
  cells : ∃ ns : List Int, H c = some (.lst (ns.map V.int))
theorem Bag.ne {H : Hp} {b c : Addr} (B : Bag H b c) : b ≠ c := fun e => by
  obtain ⟨n, m, k, h1⟩ := B.top
  obtain ⟨ns, h2⟩ := B.cells
  rw [e, h2] at h1
  have h3 := HO.lst.inj (Option.some.inj h1)
  cases ns with
  | nil => cases h3
  | cons x r =>
    injection h3 with h4 _
    cases h4
/-- all but the bag stands as it stood -/
def Kept (b c : Addr) (H H' : Hp) : Prop := ∀ x o, H x = some o → x ≠ b → x ≠ c → H' x = some o
theorem Kept.refl {b c : Addr} {H : Hp} : Kept b c H H := fun _ _ e _ _ => e
theorem Kept.trans {b c : Addr} {H1 H2 H3 : Hp} (h : Kept b c H1 H2) (k : Kept b c H2 H3) : Kept b c H1 H3 := fun x o e nb nc => k x o (h x o e nb nc) nb nc
theorem Kept.updB {b c : Addr} {H H' : Hp} {o : HO} (h : Kept b c H H') : Kept b c H (upd H' b o) := fun x u e nb nc => by
  rw [upd_ne nb]
  exact h x u e nb nc
theorem Kept.updC {b c : Addr} {H H' : Hp} {o : HO} (h : Kept b c H H') : Kept b c H (upd H' c o) := fun x u e nb nc => by
  rw [upd_ne nc]
  exact h x u e nb nc
theorem Kept.new {b c : Addr} {H H' : Hp} {o : HO} {p : Addr} (h : Kept b c H H') (hp : H p = none) : Kept b c H (upd H' p o) := fun x u e nb nc => by
  rw [upd_ne (ne_of_none e hp)]
  exact h x u e nb nc
theorem Bag.updB {H : Hp} {b c : Addr} {n m k : Int} (B : Bag H b c) : Bag (upd H b (.lst (bagL c n m k))) b c := ⟨⟨n, m, k, upd_same⟩, by
  obtain ⟨ns, h⟩ := B.cells
  exact ⟨ns, by rw [upd_ne (Ne.symm B.ne)]; exact h⟩⟩
theorem Bag.new {H : Hp} {b c p : Addr} {o : HO} (B : Bag H b c) (hp : H p = none) : Bag (upd H p o) b c := by
  obtain ⟨n, m, k, h1⟩ := B.top
  obtain ⟨ns, h2⟩ := B.cells
  exact ⟨⟨n, m, k, by rw [upd_ne (ne_of_none h1 hp)]; exact h1⟩, ⟨ns, by rw [upd_ne (ne_of_none h2 hp)]; exact h2⟩⟩
theorem seq0 (n : Nat) : seqIndex? 0 (n + 1) = some 0 := (ixN_seq (n := n + 1) (i := 0) (j := 0) (by unfold ixN; rw [if_pos (by decide), if_pos (by omega)]; rfl)).1
section
variable {P : Program} {w : World} {K : PySem.W.Frag} {mg : Str → Option Value} {base : Heap}
def spDraw : Sp := fun vs H Q _ => ∃ (b c : Addr) (lim : Int), vs = [.ref b, .int lim] ∧ Bag H b c ∧ 0 < lim ∧ lim.natAbs < 2 ^ 200 ∧ ∀ (r : Int) (H' : Hp), 0 ≤ r → r < lim → Bag H' b c → Kept b c H H' → Q (.int r) H'
theorem ok_draw {f : Addr} {fd : FuncData} (F : FnP K "_law_draw" "_law_draw" s_l_draw f fd) (ml : mg "len" = none) (mi : mg "int" = none) : FnOk P w K mg base CX0 1 f fd ["_law_bag_here", "_law_limit"] spDraw := by
  have nd := sc_l_draw.nd
  refine F.ok sc_l_draw (fun vs H Q E h => ?_) (fun cdv A outer s H vs Q E hr h => ?_)
  · obtain ⟨b, c, lim, rfl, _⟩ := h
    rfl
  · obtain ⟨b, c, lim, rfl, B, hl, hw, q⟩ := h
    refine ⟨_, PSs.nox (C8.pss_cut (ps_if (PW.pt (pw_and (pt_cmpR op_eq (pe_ix ix_list (pv 0) pe_int (fun _ _ => rfl)) pe_int (nomark _)) (pw_and1 (pt_cmpR op_gt (pe_callB call_len_seq (by rfl) ml PySem.boot_len (pa_cons (pe_ix ix_list (pv 0) pe_int (fun _ _ => rfl)) pa_nil)) pe_int (nomark _)))))
        (pss_cons (ps_set (i := 2) nd rfl (.inl rfl) (pe_bm PySem.F.plainAttrs_list PySem.F.slot_list_pop PySem.F.type_list_pop mt_popAt (pe_ix ix_list (pv 0) pe_int (fun _ _ => rfl)) (pa_cons pe_int pa_nil)))
        (pss_cons (ps_set (i := 3) nd rfl (.inl rfl) (pe_op op_mul pe_int (pv 2)))
        (C8.pss_cut (ps_if (pt_cmpR op_lt (pv 2) pe_int (nomark _)) (pss_one (ps_set (i := 3) nd rfl (.inl rfl) (pe_op op_sub (pe_op op_mul (pe_un un_neg pe_int) (pv 2)) pe_int))) pss_nil)
        (C8.pss_cut (ps_if (pt_cmpR op_ge (pv 3) (pe_op op_pow pe_int pe_int) (nomark _)) (pss_one (ps_asg (pv 3) (pg_sub (pv 0) pe_int set_list))) pss_nil)
        (pss_one (ps_asg (pe_op op_mod (pe_callTy call_int1 (by rfl) mi (by decide +kernel) (pa_cons (pe_op op_add (pe_op op_add (pe_op op_mul (pe_ix ix_list (pv 0) pe_int (fun _ _ => rfl)) pe_int) (pv 3)) pe_int) pa_nil)) pe_int) (pg_sub (pv 0) pe_int set_list)))))))
        pss_nil)
      (pss_cons (ps_if (pt_cmpR op_gt (pe_ix ix_list (pv 0) pe_int (fun _ _ => rfl)) pe_int (nomark _))
        (pss_cons (ps_set (i := 4) nd rfl (.inl rfl) (pe_op op_mod (pe_callTy call_int1 (by rfl) mi (by decide +kernel) (pa_cons (pe_ix ix_list (pv 0) pe_int (fun _ _ => rfl)) pa_nil)) (pv 1)))
        (pss_cons (ps_asg (pe_op op_fdivW (pe_ix ix_list (pv 0) pe_int (fun _ _ => rfl)) (pv 1)) (pg_sub (pv 0) pe_int set_list))
        (pss_one (ps_ret (pv 4))))) pss_nil)
      (pss_cons (ps_asg (pe_op op_add (pe_ix ix_list (pv 0) pe_int (fun _ _ => rfl)) pe_int) (pg_sub (pv 0) pe_int set_list))
      (pss_cons (ps_set (i := 5) nd rfl (.inl rfl) (pe_op op_mod (pe_callTy call_int1 (by rfl) mi (by decide +kernel) (pa_cons (pe_op op_mul (pe_op op_add (pe_op op_add (pe_ix ix_list (pv 0) pe_int (fun _ _ => rfl)) (pe_op op_mul pe_int (pe_ix ix_list (pv 0) pe_int (fun _ _ => rfl)))) pe_int) pe_int) pa_nil)) pe_int))
      (pss_cons (ps_set (i := 5) nd rfl (.inl rfl) (pe_op op_mod (pe_callTy call_int1 (by rfl) mi (by decide +kernel) (pa_cons (pe_op op_mul (pv 5) (pe_op op_add (pe_op op_fdiv (pv 5) pe_int) pe_int)) pa_nil)) pe_int))
      (pss_cons (ps_set (i := 5) nd rfl (.inl rfl) (pe_op op_mod (pe_callTy call_int1 (by rfl) mi (by decide +kernel) (pa_cons (pe_op op_mul (pv 5) (pe_op op_add (pe_op op_fdiv (pv 5) pe_int) pe_int)) pa_nil)) pe_int))
      (pss_one (ps_ret (pe_op op_mod (pe_callTy call_int1 (by rfl) mi (by decide +kernel) (pa_cons (pe_op op_fdiv (pv 5) pe_int) pa_nil)) (pv 1)))))))))), ?_⟩
    have at0 : ∀ (n m k : Int), atI (bagL c n m k) 0 = some (.ref c) := fun _ _ _ => rfl
    have at1 : ∀ (n m k : Int), atI (bagL c n m k) 1 = some (.int n) := fun _ _ _ => rfl
    have at2 : ∀ (n m k : Int), atI (bagL c n m k) 2 = some (.int m) := fun _ _ _ => rfl
    have at3 : ∀ (n m k : Int), atI (bagL c n m k) 3 = some (.int k) := fun _ _ _ => rfl
    refine ⟨fun σ' H' => ∃ x2 x3 x4 x5, σ' = [some (.ref b), some (.int lim), x2, x3, x4, x5] ∧ Bag H' b c ∧ Kept b c H H', ?_, ?_⟩
    · obtain ⟨n, m, k, hb⟩ := B.top
      obtain ⟨ns, hc⟩ := B.cells
      have nbc := B.ne
      have skip : ∃ x2 x3 x4 x5 : Option V, start ["_law_bag_here", "_law_limit", "_law_cell", "_law_number", "_law_drawn", "_law_one"] [V.ref b, V.int lim] = [some (.ref b), some (.int lim), x2, x3, x4, x5] ∧ Bag H b c ∧ Kept b c H H := ⟨none, none, none, none, rfl, B, Kept.refl⟩
      refine ⟨.ref b, rfl, b, _, 1, _, rfl, rfl, SqL.of hb, at1 n m k, rfl, _, rfl, ite2 (fun e1 => ?_) fun e1 => iteF skip⟩
      refine ⟨.ref b, rfl, b, _, 0, _, rfl, rfl, SqL.of hb, at0 n m k, c, _, rfl, .inl (SqL.of hc), _, _, rfl, rfl, _, rfl, ite2 (fun e2 => ?_) fun e2 => skip⟩
      obtain ⟨x, r, rfl⟩ : ∃ x r, ns = x :: r := by
        cases ns with
        | nil => exact absurd (of_decide_eq_true e2) (by simp)
        | cons x r => exact ⟨x, r, rfl⟩
      -- the first cell is taken
      refine ⟨.ref b, rfl, b, _, 0, _, rfl, rfl, SqL.of hb, at0 n m k, .inl ⟨rfl, _, SqL.of hc⟩, c, _, 0, 0, .int x, rfl, rfl, hc, by decide, by decide, seq0 _, rfl, ?_⟩
      have el : ((x :: r).map V.int).eraseIdx 0 = r.map V.int := rfl
      rw [el]
      generalize hH1 : upd H c (.lst (r.map V.int)) = H1
      have B1 : Bag H1 b c := by
        rw [← hH1]
        exact ⟨⟨n, m, k, by rw [upd_ne nbc]; exact hb⟩, ⟨r, upd_same⟩⟩
      have K1 : Kept b c H H1 := by
        rw [← hH1]
        exact Kept.refl.updC
      -- number = 2 * cell
      refine ⟨_, rfl, _, _, rfl, rfl, .inl (by decide), ?_⟩
      refine ⟨fun σ' H' => ∃ y : Int, σ' = [some (.ref b), some (.int lim), some (.int x), some (.int y), none, none] ∧ H' = H1, ?_, ?_⟩
      · refine ⟨_, rfl, _, _, rfl, rfl, _, rfl, ite2 (fun e3 => ?_) fun e3 => ⟨_, rfl, rfl⟩⟩
        refine ⟨_, rfl, _, rfl, _, _, rfl, rfl, .inl (by decide), _, _, rfl, rfl, ?_⟩
        exact ⟨_, rfl, rfl⟩
      · rintro σ' H' ⟨y, rfl, rfl⟩
        obtain ⟨n1, m1, k1, hb1⟩ := B1.top
        refine ⟨fun σ' H' => σ' = [some (.ref b), some (.int lim), some (.int x), some (.int y), none, none] ∧ Bag H' b c ∧ Kept b c H H', ?_, ?_⟩
        · refine ⟨_, rfl, _, _, rfl, rfl, ⟨by decide, by decide, by decide⟩, _, _, rfl, rfl, _, rfl, ite2 (fun e4 => ?_) fun e4 => ⟨rfl, B1, K1⟩⟩
          exact ⟨_, rfl, .ref b, rfl, b, _, 1, 1, rfl, rfl, hb1, rfl, rfl, B1.updB (n := y) (m := m1) (k := k1), K1.updB⟩
        · rintro σ' H' ⟨rfl, B2, K2⟩
          obtain ⟨n2, m2, k2, hb2⟩ := B2.top
          refine ⟨.ref b, rfl, b, _, 2, _, rfl, rfl, SqL.of hb2, at2 n2 m2 k2, _, _, rfl, rfl, .inr (by decide), _, rfl, _, _, rfl, rfl, _, _, rfl, rfl, .inl ⟨_, rfl, ?_⟩⟩
          refine ⟨_, _, rfl, rfl, (by show (0 : Int) < 2147483647; decide), .ref b, rfl, b, _, 2, 2, rfl, rfl, hb2, rfl, ?_⟩
          exact ⟨_, _, _, _, rfl, B2.updB, K2.updB⟩
    · rintro σ' H1 ⟨x2, x3, x4, x5, rfl, B1, K1⟩
      obtain ⟨n, m, k, hb⟩ := B1.top
      refine ⟨.ref b, rfl, b, _, 1, _, rfl, rfl, SqL.of hb, at1 n m k, _, _, rfl, rfl, _, rfl, ite2 (fun e1 => ?_) fun e1 => ?_⟩
      · refine ⟨.ref b, rfl, b, _, 1, _, rfl, rfl, SqL.of hb, at1 n m k, .inl ⟨_, rfl, ?_⟩⟩
        refine ⟨_, rfl, _, _, rfl, rfl, hl, ?_⟩
        refine ⟨.ref b, rfl, b, _, 1, _, rfl, rfl, SqL.of hb, at1 n m k, _, rfl, _, _, rfl, rfl, wide_div hl hw (by decide) (by decide), ?_⟩
        refine ⟨.ref b, rfl, b, _, 1, 1, rfl, rfl, hb, rfl, _, rfl, ?_⟩
        exact q _ _ (Int.emod_nonneg _ (by omega)) (Int.emod_lt_of_pos _ hl) B1.updB K1.updB
      · refine ⟨.ref b, rfl, b, _, 3, _, rfl, rfl, SqL.of hb, at3 n m k, _, _, rfl, rfl, .ref b, rfl, b, _, 3, 3, rfl, rfl, hb, rfl, ?_⟩
        have B2 : Bag (upd H1 b (.lst (bagL c n m (k + 1)))) b c := B1.updB
        have K2 : Kept b c H (upd H1 b (.lst (bagL c n m (k + 1)))) := K1.updB
        have hb2 : (upd H1 b (.lst (bagL c n m (k + 1)))) b = some (.lst (bagL c n m (k + 1))) := upd_same
        show _
        refine ⟨.ref b, rfl, b, _, 2, _, rfl, rfl, SqL.of hb2, at2 n m (k + 1), .ref b, rfl, b, _, 3, _, rfl, rfl, SqL.of hb2, at3 n m (k + 1), _, _, rfl, rfl, .inl (by decide), _, _, rfl, rfl, _, _, rfl, rfl, _, _, rfl, rfl, .inr (by decide), .inl ⟨_, rfl, ?_⟩⟩
        refine ⟨_, _, rfl, rfl, (by show (0 : Int) < 2147483647; decide), ?_⟩
        have z1 := Int.emod_nonneg ((m + 7919 * (k + 1) + 1) * 48271) (show (2147483647 : Int) ≠ 0 by decide)
        have z2 := Int.emod_lt_of_pos ((m + 7919 * (k + 1) + 1) * 48271) (show (0 : Int) < 2147483647 by decide)
        generalize ((m + 7919 * (k + 1) + 1) * 48271) % 2147483647 = o1 at z1 z2 ⊢
        refine ⟨_, rfl, _, rfl, _, _, rfl, rfl, ⟨by decide, by decide⟩, _, _, rfl, rfl, _, _, rfl, rfl, .inl ⟨by omega, by omega⟩, .inl ⟨_, rfl, ?_⟩⟩
        refine ⟨_, _, rfl, rfl, (by show (0 : Int) < 2147483647; decide), ?_⟩
        have y1 := Int.emod_nonneg (o1 * (o1 / 1009 + 69621)) (show (2147483647 : Int) ≠ 0 by decide)
        have y2 := Int.emod_lt_of_pos (o1 * (o1 / 1009 + 69621)) (show (0 : Int) < 2147483647 by decide)
        generalize (o1 * (o1 / 1009 + 69621)) % 2147483647 = o2 at y1 y2 ⊢
        refine ⟨_, rfl, _, rfl, _, _, rfl, rfl, ⟨by decide, by decide⟩, _, _, rfl, rfl, _, _, rfl, rfl, .inl ⟨by omega, by omega⟩, .inl ⟨_, rfl, ?_⟩⟩
        refine ⟨_, _, rfl, rfl, (by show (0 : Int) < 2147483399; decide), ?_⟩
        refine ⟨_, rfl, _, _, rfl, rfl, ⟨by decide, by decide⟩, .inl ⟨_, rfl, ?_⟩⟩
        refine ⟨_, rfl, _, _, rfl, rfl, hl, ?_⟩
        exact q _ _ (Int.emod_nonneg _ (by omega)) (Int.emod_lt_of_pos _ hl) B2 K2
end
end K14

/-! Comprehensions over the signs of a text. -/
namespace Tl
open PySem PySem.Spec PyProof.Rows L2
theorem upd_over {H : Hp} {p : Addr} {o u : HO} : upd (upd H p o) p u = upd H p u := funext fun x => by
  by_cases e : x = p
  · subst e
    rw [upd_same, upd_same]
  · rw [upd_ne e, upd_ne e, upd_ne e]
/-- [f c for c in text if p c]: i the slot of c, f and p told by the sign's code, the heap as it was -/
theorem lc_tx {te te' : TE} {tt : TT} {σ : L2.St} {H : Hp} {Q : VK} {l : List Nat} {p : Nat → Bool} {f : Nat → V} {i : Nat} (hl : l.length ≤ 1000000)
    (hte : ∀ Q' : VK, Q' (.str (tx l)) H → te σ H Q')
    (hw : ∀ x : V, wipe ((wipe σ [i]).set i (some x)) [i] = wipe σ [i])
    (ht : ∀ (n : Nat) (H2 : Hp) (Qb : Bool → Hp → Prop), n ∈ l → Qb (p n) H2 → tt ((wipe σ [i]).set i (some (.str (sg n)))) H2 Qb)
    (he : ∀ (n : Nat) (H2 : Hp) (Q' : VK), n ∈ l → Q' (f n) H2 → te' ((wipe σ [i]).set i (some (.str (sg n)))) H2 Q')
    (hq : ∀ D, H D = none → Q (.ref D) (upd H D (.lst ((l.filter p).map f)))) : tLc (iStr te) (gName i) tt te' [i] σ H Q := by
  refine hte _ ⟨tx l, rfl, fun D hD => ?_⟩
  refine lc_it (walk_str (z := tx l)) (fun j H' => H' = upd H D (.lst (((l.take j).filter p).map f))) rfl (fun _ _ _ _ => trivial) ?_ ?_
  · rintro j x H1 H' hj e1 ⟨e2, c, hc, rfl⟩
    subst e2
    subst e1
    have hc' : l[j]? = some c := by
      have e : (tx l).cps[j]? = l[j]? := by simp [tx]
      rw [← e]
      exact hc
    have hm : c ∈ l := List.mem_of_getElem? hc'
    have hlen : ((l.take j).filter p).length ≤ 1000000 := Nat.le_trans (List.length_filter_le _ _) (Nat.le_trans (by rw [List.length_take]; exact Nat.min_le_right _ _) hl)
    refine ⟨hw _, ht c _ _ hm ?_⟩
    cases hp : p c with
    | true =>
      refine iteT (he c _ _ hm ⟨_, upd_same, ?_, ?_⟩)
      · rw [List.length_map]
        exact Nat.lt_of_le_of_lt hlen (by rw [sizeLine_eq]; decide)
      · show upd (upd H D _) D _ = _
        rw [upd_over, List.take_add_one, hc', List.filter_append, List.map_append]
        simp [hp]
    | false =>
      refine iteF ?_
      show upd H D _ = upd H D _
      rw [List.take_add_one, hc', List.filter_append]
      simp [hp]
  · rintro H' rfl
    have e : l.take (tx l).cps.size = l := List.take_of_length_le (by simp [tx])
    rw [e]
    exact hq D hD
theorem cb_one {r : List V → Hp → VK → Prop} {ta : TE} {σ : L2.St} {H : Hp} {Q : VK} (h : ta σ H fun x H1 => r [x] H1 Q) : tCB r (tCons ta tNil) σ H Q := h
/-- what sep.join(xs) asks -/
abbrev rJoin (K : PySem.W.Frag) : V → List V → Hp → VK → Prop := fun x xs H Q => ∃ a p, ∃ ys : List Str, x = .str a ∧ xs = [.ref p] ∧ (SqL K H p (ys.map V.str) ∨ SqT K H p (ys.map V.str)) ∧ (ys.map (·.length)).sum + ys.length * a.length ≤ 16777216 ∧ Q (.str (Txt.join a ys)) H
theorem strs_sg (l : List Nat) : (l.map fun n => V.str (sg n)) = (l.map sg).map V.str := by
  rw [List.map_map]
  rfl
theorem join_rd {K : PySem.W.Frag} {p : Addr} {l : List Nat} {H : Hp} {Q : VK} (h : H p = some (.lst (l.map fun n => V.str (sg n)))) (hl : l.length ≤ 1000000) (q : Q (.str (tx l)) H) : rJoin K (.str (tx [])) [.ref p] H Q := by
  refine ⟨tx [], p, l.map sg, rfl, rfl, .inl (SqL.of (by rw [← strs_sg]; exact h)), ?_, ?_⟩
  · rw [sum_sg, len_tx, List.length_map]
    show l.length + l.length * 0 ≤ 16777216
    omega
  · rw [join_sg]
    exact q
/-- ''.join([c for c in text if p c]) -/
theorem join_tx {K : PySem.W.Frag} {z : Str} {te : TE} {tt : TT} {σ : L2.St} {H : Hp} {Q : VK} {l : List Nat} {p : Nat → Bool} {i : Nat} (hz : z = tx []) (hl : l.length ≤ 1000000)
    (hte : ∀ Q' : VK, Q' (.str (tx l)) H → te σ H Q')
    (hw : ∀ x : V, wipe ((wipe σ [i]).set i (some x)) [i] = wipe σ [i])
    (hv : ∀ x : V, ((wipe σ [i]).set i (some x))[i]? = some (some x))
    (ht : ∀ (n : Nat) (H2 : Hp) (Qb : Bool → Hp → Prop), n ∈ l → Qb (p n) H2 → tt ((wipe σ [i]).set i (some (.str (sg n)))) H2 Qb)
    (hq : ∀ H', Same H H' → Q (.str (tx (l.filter p))) H') : tM1 (rJoin K) (tC (.str z)) (tLc (iStr te) (gName i) tt (tVar i) [i]) σ H Q := by
  subst hz
  refine ⟨⟨_, rfl⟩, ?_⟩
  refine lc_tx (p := p) (f := fun n => .str (sg n)) hl hte hw ht (fun n H2 Q' _ q => ⟨_, hv _, q⟩) fun D hD => ?_
  refine join_rd upd_same (Nat.le_trans (List.length_filter_le _ _) hl) (hq _ fun b o e => ?_)
  rw [upd_ne (ne_of_none e hD)]
  exact e
/-- the same, the text made by a call that leaves all as it stood -/
theorem join_txG {K : PySem.W.Frag} {z : Str} {te : TE} {tt : TT} {σ : L2.St} {H : Hp} {Q : VK} {l : List Nat} {p : Nat → Bool} {i : Nat} (hz : z = tx []) (hl : l.length ≤ 1000000)
    (hte : ∀ Q' : VK, (∀ H1, Same H H1 → Q' (.str (tx l)) H1) → te σ H Q')
    (hw : ∀ x : V, wipe ((wipe σ [i]).set i (some x)) [i] = wipe σ [i])
    (hv : ∀ x : V, ((wipe σ [i]).set i (some x))[i]? = some (some x))
    (ht : ∀ (n : Nat) (H2 : Hp) (Qb : Bool → Hp → Prop), n ∈ l → Qb (p n) H2 → tt ((wipe σ [i]).set i (some (.str (sg n)))) H2 Qb)
    (hq : ∀ H', Same H H' → Q (.str (tx (l.filter p))) H') : tM1 (rJoin K) (tC (.str z)) (tLc (iStr te) (gName i) tt (tVar i) [i]) σ H Q := by
  subst hz
  refine ⟨⟨_, rfl⟩, hte _ fun H1 s1 => ?_⟩
  refine lc_tx (Q := fun y H2 => rJoin K (V.str (tx [])) [y] H2 Q) (te := tC (.str (tx l))) (te' := tVar i) (H := H1) (p := p) (f := fun n => .str (sg n)) hl (fun _ q => q) hw ht (fun n H2 Q' _ q => ⟨_, hv _, q⟩) fun D hD => ?_
  refine join_rd upd_same (Nat.le_trans (List.length_filter_le _ _) hl) (hq _ fun b o e => ?_)
  rw [upd_ne (ne_of_none (s1 _ _ e) hD)]
  exact s1 _ _ e
end Tl

namespace K14
open PySem PySem.Spec PyProof.Rows L2 Tl
theorem cut_ints (ns : List Int) (lo hi : Option Int) : ∃ ms : List Int, cutV (ns.map V.int) lo hi = ms.map V.int := by
  refine ⟨(ns.drop (HT.sIx (ns.map V.int).length 0 lo)).take (HT.sIx (ns.map V.int).length (ns.map V.int).length hi - HT.sIx (ns.map V.int).length 0 lo), ?_⟩
  unfold cutV
  rw [← List.map_drop, ← List.map_take]
theorem same_new {H : Hp} {p : Addr} {o : HO} (h : H p = none) : Same H (upd H p o) := fun b x e => by
  rw [upd_ne (ne_of_none e h)]
  exact e
theorem erase_map {α β : Type} (f : α → β) : ∀ (l : List α) (i : Nat), (l.map f).eraseIdx i = (l.eraseIdx i).map f
  | [], _ => rfl
  | _ :: _, 0 => rfl
  | x :: l, i + 1 => congrArg (f x :: ·) (erase_map f l i)
theorem erase_cons {α : Type} : ∀ (l : List α) (i : Nat) (h : i < l.length), List.Perm (l[i] :: l.eraseIdx i) l
  | [], i, h => absurd h (Nat.not_lt_zero i)
  | _ :: _, 0, _ => List.Perm.refl _
  | x :: l, i + 1, h => (List.Perm.swap x _ _).trans ((erase_cons l i (Nat.lt_of_succ_lt_succ h)).cons x)
/-- all the signs, by their codes -/
def alpha : List Nat := (List.range 95).filterMap fun i => if i = 5 then none else some (i + 32)
theorem alpha_len : alpha.length = 94 := by decide +kernel
theorem alpha_nodup : alpha.Nodup := by decide +kernel
theorem line_small {n : Nat} (h : n ≤ 16777216) : n ≤ sizeLine := by
  rw [sizeLine_eq]
  exact h
section
variable {P : Program} {w : World} {K : PySem.W.Frag} {mg : Str → Option Value} {base : Heap}
def spBag (K : PySem.W.Frag) : Sp := fun vs H Q _ => ∃ (a : Addr) (ns : List Int), vs = [.ref a] ∧ SqL K H a (ns.map V.int) ∧ ns.length ≤ 63 ∧ ∀ (b c : Addr) (H' : Hp), H b = none → H c = none → Bag H' b c → Same H H' → Q (.ref b) H'
theorem ok_bag {f : Addr} {fd : FuncData} (F : FnP K "_law_bag" "_law_bag" s_l_bag f fd) (ml : mg "list" = none) : FnOk P w K mg base CX0 1 f fd ["_law_script"] (spBag K) := by
  refine F.ok sc_l_bag (fun vs H Q E h => ?_) (fun cdv A outer s H vs Q E hr h => ?_)
  · obtain ⟨a, ns, rfl, _⟩ := h
    rfl
  · obtain ⟨a, ns, rfl, hS, hlen, q⟩ := h
    refine ⟨_, PSs.nox (pss_one (ps_ret (pe_lst (pa_cons (pe_callTy call_list_of (by rfl) ml (by decide +kernel) (pa_cons (pe_slice sl_list (pv 0) po_none (po_some pe_int)) pa_nil)) (pa_cons pe_int (pa_cons pe_int (pa_cons pe_int pa_nil))))))), ?_⟩
    refine ⟨.ref a, rfl, 63, rfl, a, _, rfl, hS, fun p hp => ?_⟩
    obtain ⟨ms, em⟩ := cut_ints ns none (some 63)
    rw [em]
    refine ⟨p, _, rfl, .inl (SqL.of upd_same), fun c hc => ?_⟩
    refine ⟨by show 4 ≤ sizeLine; exact line_small (by decide), fun b hb => ?_⟩
    have s1 : Same H (upd H p (.lst (ms.map V.int))) := same_new hp
    have s2 := s1.trans (same_new (o := .lst (ms.map V.int)) hc)
    have s3 := s2.trans (same_new (o := .lst [V.ref c, .int 0, .int 0, .int 0]) hb)
    have nbc : c ≠ b := ne_of_none upd_same hb
    refine q b c _ (s2.free hb) (s1.free hc) ⟨⟨0, 0, 0, upd_same⟩, ⟨ms, ?_⟩⟩ s3
    rw [upd_ne nbc, upd_same]
def spAlpha : Sp := fun vs H Q _ => vs = [] ∧ Q (.str (tx alpha)) H
theorem ok_alpha {f : Addr} {fd : FuncData} (F : FnP K "_law_alphabet" "_law_alphabet" s_l_alphabet f fd) : FnOk P w K mg base CX0 1 f fd [] spAlpha := by
  refine F.ok sc_l_alphabet (fun vs H Q E h => ?_) (fun cdv A outer s H vs Q E hr h => ?_)
  · obtain ⟨rfl, _⟩ := h
    rfl
  · obtain ⟨rfl, q⟩ := h
    refine ⟨_, PSs.nox (pss_cons (ps_set (i := 0) sc_l_alphabet.nd rfl (.inl rfl) pe_str) (pss_one (ps_ret (pe_op op_add_str (pv 0) pe_str)))), ?_⟩
    refine ⟨_, rfl, _, _, rfl, rfl, line_small (by decide +kernel), ?_⟩
    have e : ∀ z : Str, z = tx alpha → Q (.str z) H := fun z hz => by
      rw [hz]
      exact q
    exact e _ (by decide +kernel)
def lettersV (ls : List Nat) : List V := ls.map fun n => V.str (sg n)
def spLetters : Sp := fun vs H Q _ => ∃ (b c : Addr) (many : Int), vs = [.ref b, .int many] ∧ Bag H b c ∧ 0 ≤ many ∧ many ≤ 94 ∧
  ∀ (p : Addr) (ls : List Nat) (H' : Hp), (ls.length : Int) = many → ls.Nodup → (∀ x ∈ ls, x ∈ alpha) → H p = none → H' p = some (.lst (lettersV ls)) → Bag H' b c → Kept b c H H' → Q (.ref p) H'
theorem ok_letters {f fA fD : Addr} {fd fdA fdD : FuncData} (F : FnP K "_law_letters" "_law_letters" s_l_letters f fd) (ml : mg "list" = none) (mn : mg "len" = none) (mr : mg "range" = none)
    (GA : FnOk P w K mg base CX0 1 fA fdA [] spAlpha) (gA : mg "_law_alphabet" = some (.ref fA)) (kA : PySem.W.keepIn K (.ref fA) = true) (bA : Binds K fdA [] [])
    (GD : FnOk P w K mg base CX0 1 fD fdD ["_law_bag_here", "_law_limit"] spDraw) (gD : mg "_law_draw" = some (.ref fD)) (kD : PySem.W.keepIn K (.ref fD) = true) (bD : Binds K fdD ["_law_bag_here", "_law_limit"] []) :
    FnOk P w K mg base CX0 2 f fd ["_law_bag_here", "_law_many"] spLetters := by
  have nd := sc_l_letters.nd
  refine F.ok sc_l_letters (fun vs H Q E h => ?_) (fun cdv A outer s H vs Q E hr h => ?_)
  · obtain ⟨b, c, many, rfl, _⟩ := h
    rfl
  · obtain ⟨b, c, many, rfl, B, h0, h94, q⟩ := h
    refine ⟨_, PSs.nox (pss_cons (ps_set (i := 2) nd rfl (.inl rfl) (pe_callTy (call_listTx rfl) (by rfl) ml (by decide +kernel) (pa_cons (pe_call0 GA hr (by rfl) gA kA bA .nil pass0) pa_nil)))
      (pss_cons (ps_set (i := 3) nd rfl (.inl rfl) (pe_lst pa_nil))
      (pss_cons (ps_for PassesOwn.never rfl (pi_range1 rfl mr (pa_cons (pv 1) pa_nil)) (pg_name (i := 4) nd rfl (.inl rfl))
        (pss_one (ps_expr (pe_bm PySem.F.plainAttrs_list PySem.F.slot_list_append PySem.F.type_list_append mt_append (pv 3)
          (pa_cons (pe_bm PySem.F.plainAttrs_list PySem.F.slot_list_pop PySem.F.type_list_pop mt_popAt (pv 2)
            (pa_cons (pe_call GD hr (by rfl) gD kD bD .nil pass0 (pa_cons (pv 0) (pa_cons (pe_callB call_len_seq (by rfl) mn PySem.boot_len (pa_cons (pv 2) pa_nil)) pa_nil))) pa_nil)) pa_nil)))))
      (pss_one (ps_ret (pv 3)))))), ?_⟩
    -- rest, found
    refine ⟨rfl, alpha, rfl, line_small (by rw [alpha_len]; decide), fun r hr0 => ?_⟩
    refine ⟨Nat.zero_le _, fun p hp => ?_⟩
    have s1 : Same H (upd H r (.lst (alpha.map fun n => V.str (sg n)))) := same_new hr0
    have hp0 : H p = none := s1.free hp
    have nrp : r ≠ p := ne_of_none upd_same hp
    refine ⟨_, rfl, many, rfl, by omega, by omega, for_range (n := many.toNat) (fun i σ H' => ∃ (x4 : Option V) (ls rs : List Nat), σ = [some (.ref b), some (.int many), some (.ref r), some (.ref p), x4] ∧ H' r = some (.lst (lettersV rs)) ∧ H' p = some (.lst (lettersV ls)) ∧
      (ls ++ rs).Perm alpha ∧ ls.length = i ∧ Bag H' b c ∧ Kept b c H H') ?_ ?_ ?_⟩
    · refine ⟨none, [], alpha, rfl, ?_, upd_same, List.Perm.refl _, rfl, ((B.new hr0).new hp), (Kept.refl.new hr0).new hp0⟩
      rw [upd_ne nrp, upd_same]
      rfl
    · rintro i σ H1 hi ⟨x4, ls, rs, rfl, h1, h2, pm, el, B1, K1⟩
      have elen : ls.length + rs.length = 94 := by
        rw [← List.length_append, pm.length_eq, alpha_len]
      have hrl : 0 < rs.length := by omega
      refine ⟨.ref p, rfl, .inl ⟨rfl, _, SqL.of h2⟩, .ref r, rfl, .inl ⟨rfl, _, SqL.of h1⟩, .ref b, rfl, .ref r, rfl, r, _, rfl, .inl (SqL.of h1), ?_⟩
      refine ⟨b, c, _, rfl, B1, ?_, ?_, fun d H2 d0 d1 B2 K2 => ?_⟩
      · rw [show (lettersV rs).length = rs.length from List.length_map _]
        omega
      · rw [show (lettersV rs).length = rs.length from List.length_map _]
        show rs.length < 2 ^ 200
        exact Nat.lt_of_le_of_lt (show rs.length ≤ 94 by omega) (by decide)
      · rw [show (lettersV rs).length = rs.length from List.length_map _] at d1
        obtain ⟨n1, m1, k1, hb1⟩ := B.top
        obtain ⟨ns1, hc1⟩ := B.cells
        have nrb : r ≠ b := Ne.symm (ne_of_none hb1 hr0)
        have nrc : r ≠ c := Ne.symm (ne_of_none hc1 hr0)
        have npb : p ≠ b := Ne.symm (ne_of_none hb1 hp0)
        have npc : p ≠ c := Ne.symm (ne_of_none hc1 hp0)
        have g1 := K2 _ _ h1 nrb nrc
        have g2 := K2 _ _ h2 npb npc
        have hj : d.toNat < rs.length := by omega
        have hx : rs[d.toNat]? = some rs[d.toNat] := List.getElem?_eq_getElem hj
        have hgx : (lettersV rs)[d.toNat]? = some (.str (sg rs[d.toNat])) := by
          unfold lettersV
          rw [List.getElem?_map, hx]
          rfl
        have hsq : seqIndex? d (lettersV rs).length = some d.toNat := by
          refine (ixN_seq (n := (lettersV rs).length) (i := d) (j := d.toNat) ?_).1
          unfold ixN lettersV
          rw [List.length_map, if_pos d0, if_pos (by omega)]
        refine ⟨r, _, d, d.toNat, _, rfl, rfl, g1, by omega, by omega, hsq, hgx, ?_⟩
        have ee : (lettersV rs).eraseIdx d.toNat = lettersV (rs.eraseIdx d.toNat) := by
          unfold lettersV
          exact erase_map _ _ _
        rw [ee]
        refine ⟨p, _, _, rfl, rfl, (by rw [upd_ne (Ne.symm nrp)]; exact g2), ?_, ?_⟩
        · rw [show (lettersV ls).length = ls.length from List.length_map _]
          exact small1000 (by omega)
        · have ea : lettersV ls ++ [V.str (sg rs[d.toNat])] = lettersV (ls ++ [rs[d.toNat]]) := by
            unfold lettersV
            rw [List.map_append]
            rfl
          rw [ea]
          refine ⟨_, ls ++ [rs[d.toNat]], rs.eraseIdx d.toNat, rfl, by rw [upd_ne nrp, upd_same], upd_same, ?_, ?_, ?_, ?_⟩
          · rw [List.append_assoc]
            refine List.Perm.trans (List.Perm.append_left ls ?_) pm
            exact erase_cons rs d.toNat hj
          · rw [List.length_append, el]
            rfl
          · obtain ⟨n2, m2, k2, hb2⟩ := B2.top
            obtain ⟨ns2, hc2⟩ := B2.cells
            exact ⟨⟨n2, m2, k2, by rw [upd_ne (Ne.symm npb), upd_ne (Ne.symm nrb)]; exact hb2⟩, ⟨ns2, by rw [upd_ne (Ne.symm npc), upd_ne (Ne.symm nrc)]; exact hc2⟩⟩
          · exact ((K1.trans K2).new hr0).new hp0
    · rintro σ H1 ⟨x4, ls, rs, rfl, h1, h2, pm, el, B1, K1⟩
      refine ⟨_, rfl, q p ls H1 (by omega) ?_ (fun x hx => pm.mem_iff.mp (List.mem_append_left _ hx)) hp0 h2 B1 K1⟩
      exact (List.nodup_append.mp (pm.nodup_iff.mpr alpha_nodup)).1
end
end K14

set_option autoImplicit false
set_option maxErrors 4
namespace K14
open PySem PySem.Spec PyProof.Rows L2 Tl
/-! ### integers, rows, bounds -/
/-- not an integer, as isinstance sees it -/
def NoInt (K : PySem.W.Frag) (H : Hp) (x : V) : Prop := ∃ (t : Value) (b1 b2 : Bool), TyX K H x t ∧ PySem.W.kitOne K t (.type "int") = some b1 ∧ PySem.W.kitOne K t (.type "bool") = some b2 ∧ (b1 && !b2) = false
/-- the names that isinstance needs -/
structure Nms (mg : Str → Option Value) : Prop where
  isi : mg "isinstance" = none
  int : mg "int" = none
  bool : mg "bool" = none
  list : mg "list" = none
  tuple : mg "tuple" = none
  str : mg "str" = none
  all : mg "all" = none
  any : mg "any" = none
  sum : mg "sum" = none
  len : mg "len" = none
  enumerate : mg "enumerate" = none
  range : mg "range" = none
  max : mg "max" = none
  sorted : mg "sorted" = none
section
variable (P : Program) (w : World) (K : PySem.W.Frag) (mg : Str → Option Value) (base : Heap) (CX : CXT)
/-- a def of the top that keeps its promise and can be called by its name -/
def Can (x : Str) (ps : List Str) (k : Nat) (sp : Sp) : Prop := ∃ f fd, FnOk P w K mg base CX k f fd ps sp ∧ mg x = some (.ref f) ∧ PySem.W.keepIn K (.ref f) = true ∧ Binds K fd ps []
end
section
variable {P : Program} {w : World} {K : PySem.W.Frag} {mg : Str → Option Value} {base : Heap}
def spIsInt (K : PySem.W.Frag) : Sp := fun vs H Q _ => ∃ x, vs = [x] ∧ ((∃ n, x = .int n ∧ Q (.bl true) H) ∨ (NoInt K H x ∧ Q (.bl false) H))
theorem ok_is_integer {f : Addr} {fd : FuncData} (F : FnP K "is_integer" "is_integer" s_is_integer f fd) (N : Nms mg) : FnOk P w K mg base CX0 1 f fd ["thing"] (spIsInt K) := by
  refine F.ok sc_is_integer (fun vs H Q E h => ?_) (fun cdv A outer s H vs Q E hr h => ?_)
  · obtain ⟨x, rfl, _⟩ := h
    rfl
  · obtain ⟨x, rfl, h⟩ := h
    refine ⟨_, PSs.nox (pss_one (ps_ret (pe_and (pe_callB call_isi (by rfl) N.isi (by decide +kernel) (pa_cons (pv 0) (pa_cons (pe_bltn (v := .ty "int") (by rfl) N.int (by decide +kernel) rfl) pa_nil)))
      (pe_one (pe_not (pe_callB call_isi (by rfl) N.isi (by decide +kernel) (pa_cons (pv 0) (pa_cons (pe_bltn (v := .ty "bool") (by rfl) N.bool (by decide +kernel) rfl) pa_nil)))))))), ?_⟩
    rcases h with ⟨n, rfl, q⟩ | ⟨⟨t, b1, b2, ty, k1, k2, e⟩, q⟩
    · refine ⟨_, rfl, _, _, _, _, true, rfl, .ty "int", .base (.int _), kit_ty (by decide +kernel), true, rfl, iteT ?_⟩
      exact ⟨_, rfl, _, _, _, _, false, rfl, .ty "bool", .base (.int _), kit_ty (by decide +kernel), false, rfl, q⟩
    · cases b1 with
      | false => exact ⟨_, rfl, _, _, _, _, false, rfl, .ty "int", ty, k1, false, rfl, iteF q⟩
      | true =>
        have e2 : b2 = true := by simpa using e
        subst e2
        exact ⟨_, rfl, _, _, _, _, true, rfl, .ty "int", ty, k1, true, rfl, iteT ⟨_, rfl, _, _, _, _, true, rfl, .ty "bool", ty, k2, true, rfl, q⟩⟩
def spWithin (K : PySem.W.Frag) : Sp := fun vs H Q _ => ∃ (x : V) (lo hi : Int), vs = [x, .int lo, .int hi] ∧ ((∃ n, x = .int n ∧ Q (.bl (decide (lo ≤ n ∧ n ≤ hi))) H) ∨ (NoInt K H x ∧ Q (.bl false) H))
theorem ok_within {f : Addr} {fd : FuncData} (F : FnP K "is_integer_within" "is_integer_within" s_is_integer_within f fd) (I : Can P w K mg base CX0 "is_integer" ["thing"] 1 (spIsInt K)) : FnOk P w K mg base CX0 2 f fd ["thing", "low", "high"] (spWithin K) := by
  obtain ⟨fI, fdI, GI, gI, kI, bI⟩ := I
  refine F.ok sc_is_integer_within (fun vs H Q E h => ?_) (fun cdv A outer s H vs Q E hr h => ?_)
  · obtain ⟨x, lo, hi, rfl, _⟩ := h
    rfl
  · obtain ⟨x, lo, hi, rfl, h⟩ := h
    refine ⟨_, PSs.nox (pss_one (ps_ret (pe_and (pe_call GI hr (by rfl) gI kI bI .nil pass0 (pa_cons (pv 0) pa_nil)) (pe_one (pe_chain op_le op_le (pv 1) (pv 0) (pv 2)))))), ?_⟩
    rcases h with ⟨n, rfl, q⟩ | ⟨no, q⟩
    · refine ⟨_, rfl, _, rfl, .inl ⟨n, rfl, true, rfl, iteT ?_⟩⟩
      refine ⟨_, rfl, _, rfl, _, _, rfl, rfl, _, rfl, ?_⟩
      by_cases h1 : lo ≤ n
      · have e : decide (lo ≤ n ∧ n ≤ hi) = decide (n ≤ hi) := by simp [h1]
        rw [e] at q
        refine (if_pos (decide_eq_true h1)).mpr ?_
        exact ⟨_, rfl, _, _, rfl, rfl, q⟩
      · have e : decide (lo ≤ n ∧ n ≤ hi) = false := by simp [h1]
        rw [e] at q
        refine (if_neg (by simpa using h1)).mpr ?_
        exact q
    · exact ⟨_, rfl, _, rfl, .inr ⟨no, false, rfl, iteF q⟩⟩
def spRow (K : PySem.W.Frag) : Sp := fun vs H Q _ => ∃ (x : V) (t : Value) (b1 b2 : Bool), vs = [x] ∧ TyX K H x t ∧ PySem.W.kitOne K t (.type "list") = some b1 ∧ PySem.W.kitOne K t (.type "tuple") = some b2 ∧ ∀ H', Same H H' → Q (.bl (b1 || b2)) H'
def spPc : Sp := fun vs H Q _ => ∃ (l : Nat) (m : Option Nat), vs = [.int l, m.elim .non fun n => .int (n : Nat)] ∧ Q (.int ((m.getD (Nat.max l 1) : Nat) : Int)) H
theorem ok_place_count {f : Addr} {fd : FuncData} (F : FnP K "place_count" "place_count" s_place_count f fd) (N : Nms mg) : FnOk P w K mg base CX0 1 f fd ["least", "most"] spPc := by
  refine F.ok sc_place_count (fun vs H Q E h => ?_) (fun cdv A outer s H vs Q E hr h => ?_)
  · obtain ⟨l, m, rfl, _⟩ := h
    rfl
  · obtain ⟨l, m, rfl, q⟩ := h
    refine ⟨_, PSs.nox (pss_cons (ps_if (pt_cmpR op_isN (pv 1) pe_non (nomark _)) (pss_one (ps_ret (pe_callB (call_max2 rfl) (by rfl) N.max (by decide +kernel) (pa_cons (pv 0) (pa_cons pe_int pa_nil))))) pss_nil) (pss_one (ps_ret (pv 1)))), ?_⟩
    cases m with
    | none =>
      refine ⟨_, rfl, rfl, _, rfl, iteT ?_⟩
      refine ⟨_, rfl, (l : Int), 1, rfl, ?_⟩
      have e : (if (1 : Int) > (l : Int) then (1 : Int) else (l : Int)) = ((Nat.max l 1 : Nat) : Int) := by
        show _ = ((max l 1 : Nat) : Int)
        split <;> omega
      rw [e]
      exact q
    | some n =>
      refine ⟨_, rfl, rfl, _, rfl, iteF ?_⟩
      exact ⟨_, rfl, q⟩
end
end K14

set_option autoImplicit false
set_option maxErrors 4
/-! The bit operators of natural numbers. -/
namespace Tl
open PySem PySem.Spec PyProof.Rows L2
theorem bitOr_nat (n m : Nat) : Builtin.bitOr (n : Int) (m : Int) = ((n ||| m : Nat) : Int) := by
  have e := bitOr_nn (Int.natCast_nonneg n) (Int.natCast_nonneg m)
  rw [Int.toNat_natCast, Int.toNat_natCast] at e
  exact e
theorem bitAnd_nat (n m : Nat) : Builtin.bitAnd (n : Int) (m : Int) = ((n &&& m : Nat) : Int) := by
  unfold Builtin.bitAnd
  rw [decide_eq_true (Int.natCast_nonneg n), decide_eq_true (Int.natCast_nonneg m)]
  show (((n : Int).toNat &&& (m : Int).toNat : Nat) : Int) = _
  rw [Int.toNat_natCast, Int.toNat_natCast]
/-- n & ~1 -/
theorem bitAnd_even (n : Nat) : Builtin.bitAnd (n : Int) (-2) = ((n / 2 * 2 : Nat) : Int) := by
  unfold Builtin.bitAnd
  rw [decide_eq_true (Int.natCast_nonneg n), show decide ((0 : Int) ≤ -2) = false by decide]
  show (n : Int) - (((n : Int).toNat &&& (Builtin.bitNot (-2)).toNat : Nat) : Int) = _
  rw [Int.toNat_natCast, show (Builtin.bitNot (-2)).toNat = 1 by decide, Nat.and_one_is_mod]
  omega
section
variable {X : Cx}
theorem op_orNat : OpR X (binaryOp .BitOr) (fun x y H Q => ∃ n m : Nat, x = .int n ∧ y = .int m ∧ Q (.int ((n ||| m : Nat) : Int)) H) := fun pins s σ H x y u v Q I rx ry h => by
  obtain ⟨n, m, rfl, rfl, q⟩ := h
  exact op_or pins s σ H _ _ u v Q I rx ry ⟨_, _, rfl, rfl, by dsimp only; rw [bitOr_nat]; exact q⟩
theorem op_andNat : OpR X (binaryOp .BitAnd) (fun x y H Q => ∃ n m : Nat, x = .int n ∧ y = .int m ∧ Q (.int ((n &&& m : Nat) : Int)) H) := fun pins s σ H x y u v Q I rx ry h => by
  obtain ⟨n, m, rfl, rfl, q⟩ := h
  exact op_and pins s σ H _ _ u v Q I rx ry ⟨_, _, rfl, rfl, by dsimp only; rw [bitAnd_nat]; exact q⟩
theorem op_andEven : OpR X (binaryOp .BitAnd) (fun x y H Q => ∃ n : Nat, x = .int n ∧ y = .int (-2) ∧ Q (.int ((n / 2 * 2 : Nat) : Int)) H) := fun pins s σ H x y u v Q I rx ry h => by
  obtain ⟨n, rfl, rfl, q⟩ := h
  exact op_and pins s σ H _ _ u v Q I rx ry ⟨_, _, rfl, rfl, by dsimp only; rw [bitAnd_even]; exact q⟩
theorem op_shlNat : OpR X (binaryOp .LShift) (fun x y H Q => ∃ n k : Nat, x = .int n ∧ y = .int k ∧ n < 2 ^ 4000 ∧ k ≤ 4000 ∧ Q (.int ((n <<< k : Nat) : Int)) H) := fun pins s σ H x y u v Q I rx ry h => by
  obtain ⟨n, k, rfl, rfl, hn, hk, q⟩ := h
  refine op_shlN pins s σ H _ _ u v Q I rx ry ⟨n, k, rfl, rfl, shl_ok (n := 4000) (by rw [Int.natAbs_natCast]; exact hn) (by omega), ?_⟩
  have e : (n : Int) * 2 ^ k = ((n <<< k : Nat) : Int) := by rw [Nat.shiftLeft_eq]; push_cast; rfl
  rw [e]
  exact q
theorem op_shrNat : OpR X (binaryOp .RShift) (fun x y H Q => ∃ n k : Nat, x = .int n ∧ y = .int k ∧ Q (.int ((n >>> k : Nat) : Int)) H) := fun pins s σ H x y u v Q I rx ry h => by
  obtain ⟨n, k, rfl, rfl, q⟩ := h
  refine op_shrN pins s σ H _ _ u v Q I rx ry ⟨n, k, rfl, rfl, ?_⟩
  have e : (n : Int) / 2 ^ k = ((n >>> k : Nat) : Int) := by rw [Nat.shiftRight_eq_div_pow]; push_cast; rfl
  rw [e]
  exact q
theorem op_addNat : OpR X (binaryOp .Add) (fun x y H Q => ∃ n m : Nat, x = .int n ∧ y = .int m ∧ Q (.int ((n + m : Nat) : Int)) H) := op_addN
theorem op_subNat : OpR X (binaryOp .Sub) (fun x y H Q => ∃ n m : Nat, x = .int n ∧ y = .int m ∧ m ≤ n ∧ Q (.int ((n - m : Nat) : Int)) H) := op_subN
end
/-! ### bounds -/
theorem or_lt {a b k : Nat} (ha : a < 2 ^ k) (hb : b < 2 ^ k) : a ||| b < 2 ^ k := Nat.or_lt_two_pow ha hb
theorem shl_lt {a k j : Nat} (ha : a < 2 ^ k) : a <<< j < 2 ^ (k + j) := by
  rw [Nat.shiftLeft_eq, Nat.pow_add]
  exact Nat.mul_lt_mul_of_pos_right ha (Nat.two_pow_pos j)
theorem shr_le (a k : Nat) : a >>> k ≤ a := by
  rw [Nat.shiftRight_eq_div_pow]
  exact Nat.div_le_self _ _
theorem lt_mono {a j k : Nat} (h : a < 2 ^ j) (l : j ≤ k) : a < 2 ^ k := Nat.lt_of_lt_of_le h (Nat.pow_le_pow_right (by decide) l)
end Tl

set_option autoImplicit false
set_option maxErrors 4
namespace K14
open PySem PySem.Spec PyProof.Rows L2 Tl
/-! ### nets, as they are reckoned -/
structure LNet where
  chars : List Str
  follow : List Nat
  exits : Nat
def LNet.Ok (n : LNet) : Prop := n.follow.length = n.chars.length + 1 ∧ n.chars.length ≤ 1000 ∧ (∀ x ∈ n.follow, x < 2 ^ (n.chars.length + 1)) ∧ n.exits < 2 ^ (n.chars.length + 1) ∧ ∀ s ∈ n.chars, s.cps.size ≤ 1000
def pcL (l : Nat) (m : Option Nat) : Nat := m.getD (Nat.max l 1)
def ren (p s : Nat) : Nat := ((p >>> 1) <<< (1 + s)) ||| (p &&& 1)
def runL (sg : Str) (l : Nat) (m : Option Nat) : LNet :=
  ⟨List.replicate (pcL l m) sg, (List.range (pcL l m)).map (fun t => 1 <<< (1 + t)) ++ [m.elim (1 <<< pcL l m) fun _ => 0], (1 <<< (pcL l m + 1)) - (1 <<< l)⟩
theorem ren_lt {p s k : Nat} (h : p < 2 ^ (k + 1)) : ren p s < 2 ^ (k + s + 1) := by
  unfold ren
  have e : p >>> 1 < 2 ^ k := by
    rw [Nat.shiftRight_eq_div_pow]
    exact Nat.div_lt_of_lt_mul (by rw [Nat.pow_succ] at h; omega)
  refine or_lt ?_ ?_
  · have z := shl_lt (j := 1 + s) e
    have e2 : k + (1 + s) = k + s + 1 := by omega
    rw [e2] at z
    exact z
  · refine Nat.lt_of_le_of_lt (Nat.and_le_right) ?_
    exact Nat.lt_of_lt_of_le (show 1 < 2 ^ 1 by decide) (Nat.pow_le_pow_right (by decide) (by omega))
theorem one_shl (k : Nat) : 1 <<< k = 2 ^ k := by rw [Nat.shiftLeft_eq, Nat.one_mul]
theorem pcL_le {l : Nat} {m : Option Nat} (h : ∀ n, m = some n → l ≤ n) : l ≤ pcL l m := by
  cases m with
  | none => exact Nat.le_max_left _ _
  | some n => exact h n rfl
theorem runL_ok {sg : Str} {l : Nat} {m : Option Nat} (hs : sg.cps.size ≤ 1000) (h : ∀ n, m = some n → l ≤ n) (hp : pcL l m ≤ 1000) : (runL sg l m).Ok := by
  unfold LNet.Ok runL
  refine ⟨by simp, by simpa using hp, fun x hx => ?_, ?_, fun s h => by rw [List.eq_of_mem_replicate h]; exact hs⟩
  · simp only [List.length_replicate]
    rcases List.mem_append.mp hx with hx | hx
    · obtain ⟨t, ht, rfl⟩ := List.mem_map.mp hx
      rw [List.mem_range] at ht
      rw [one_shl]
      exact Nat.pow_lt_pow_right (by decide) (by omega)
    · rw [List.mem_singleton.mp hx]
      cases m with
      | none =>
        show 1 <<< pcL l none < _
        rw [one_shl]
        exact Nat.pow_lt_pow_right (by decide) (by omega)
      | some n => exact Nat.two_pow_pos _
  · simp only [List.length_replicate]
    rw [one_shl, one_shl]
    have z : 0 < 2 ^ l := Nat.two_pow_pos _
    have z2 : 0 < 2 ^ (pcL l m + 1) := Nat.two_pow_pos _
    omega
def intsV (xs : List Nat) : List V := xs.map fun x => V.int (x : Nat)
def strsV (xs : List Str) : List V := xs.map V.str
/-! dicts from texts to numbers -/
abbrev SN := List (Str × Nat)
def kvsV (d : SN) : List (Key × V) := d.map fun p => (Sum.inr p.1, V.int (p.2 : Nat))
def getN (d : SN) (s : Str) : Option Nat := (d.find? fun p => decide (p.1 = s)).map (·.2)
def putN (d : SN) (s : Str) (v : Nat) : SN := if (d.any fun p => decide (p.1 = s)) = true then d.map (fun p => if p.1 = s then (p.1, v) else p) else d ++ [(s, v)]
def addN (d : SN) (s : Str) (v : Nat) : SN := putN d s ((getN d s).getD 0 ||| v)
def bySt (cs : List Str) : SN := (List.range cs.length).foldl (fun d i => addN d (cs.getD i default) (1 <<< (1 + i))) []
def spread (c : SN) (s : Str) (v : Nat) : SN := s.cps.toList.foldl (fun c n => addN c ⟨#[n]⟩ v) c
def byCh (d : SN) : SN := d.foldl (fun c p => spread c p.1 p.2) []
def standsFor (cs : List Str) : List (Key × V) := kvsV (byCh (bySt cs))
theorem putN_length (d : SN) (s : Str) (v : Nat) : (putN d s v).length ≤ d.length + 1 := by
  unfold putN
  split <;> simp
theorem kvsV_get (d : SN) (s : Str) : valV (kvsV d) (Sum.inr s) = (getN d s).map fun n => V.int (n : Nat) := by
  unfold valV kvsV getN
  induction d with
  | nil => rfl
  | cons p r ih =>
    rw [List.map_cons, List.find?_cons, List.find?_cons]
    by_cases e : p.1 = s
    · rw [decide_eq_true e, decide_eq_true (show (Sum.inr p.1 : Key) = Sum.inr s by rw [e])]
      rfl
    · rw [decide_eq_false e, decide_eq_false (show ¬ (Sum.inr p.1 : Key) = Sum.inr s from fun z => e (Sum.inr.inj z))]
      exact ih
theorem kvsV_put (d : SN) (s : Str) (v : Nat) : putK (kvsV d) (Sum.inr s) (.int (v : Nat)) = kvsV (putN d s v) := by
  have ea : ((kvsV d).any fun kv => decide (kv.1 = Sum.inr s)) = d.any fun p => decide (p.1 = s) := by
    unfold kvsV
    rw [List.any_map]
    congr 1
    funext p
    show decide ((Sum.inr p.1 : Key) = Sum.inr s) = decide (p.1 = s)
    rw [decide_eq_decide]
    exact ⟨fun z => Sum.inr.inj z, fun z => by rw [z]⟩
  unfold putK putN
  rw [ea]
  split
  · unfold kvsV
    rw [List.map_map, List.map_map]
    refine List.map_congr_left fun p _ => ?_
    by_cases e : p.1 = s
    · simp [e]
    · have e2 : ¬ (Sum.inr p.1 : Key) = Sum.inr s := fun z => e (Sum.inr.inj z)
      simp [e]
  · unfold kvsV
    rw [List.map_append]
    rfl
/-- the net n stands at r -/
def NetAt (NC : Addr) (H : Hp) (r : Addr) (n : LNet) : Prop := ∃ dx c f d, H r = some (.ins NC dx [("chars", .ref c), ("follow", .ref f), ("exits", .int (n.exits : Nat)), ("stands_for", .ref d)]) ∧ H c = some (.lst (strsV n.chars)) ∧ H f = some (.lst (intsV n.follow)) ∧ H d = some (.dK (standsFor n.chars))
theorem NetAt.same {NC : Addr} {H H' : Hp} {r : Addr} {n : LNet} (h : NetAt NC H r n) (s : Same H H') : NetAt NC H' r n := by
  obtain ⟨dx, c, f, d, h1, h2, h3, h4⟩ := h
  exact ⟨dx, c, f, d, s _ _ h1, s _ _ h2, s _ _ h3, s _ _ h4⟩
/-- the net n has been made at r over the lists at c and f -/
def NetNew (NC : Addr) (H H' : Hp) (r c f : Addr) (n : LNet) : Prop := ∃ dx d, H d = none ∧ H' r = some (.ins NC dx [("chars", .ref c), ("follow", .ref f), ("exits", .int (n.exits : Nat)), ("stands_for", .ref d)]) ∧ H' c = some (.lst (strsV n.chars)) ∧ H' f = some (.lst (intsV n.follow)) ∧ H' d = some (.dK (standsFor n.chars))
theorem NetNew.at {NC : Addr} {H H' : Hp} {r c f : Addr} {n : LNet} (h : NetNew NC H H' r c f n) : NetAt NC H' r n := by
  obtain ⟨dx, d, _, h1, h2, h3, h4⟩ := h
  exact ⟨dx, c, f, d, h1, h2, h3, h4⟩
theorem NetNew.of {NC : Addr} {H0 H H' : Hp} {r c f : Addr} {n : LNet} (s : Same H0 H) (h : NetNew NC H H' r c f n) : NetNew NC H0 H' r c f n := by
  obtain ⟨dx, d, h0, h⟩ := h
  exact ⟨dx, d, s.free h0, h⟩
/-- a new net, beside a heap in which all stands as it stood -/
abbrev GivesNet (NC : Addr) (H : Hp) (Q : VK) (n : LNet) : Prop := ∀ r c f H', Same H H' → H r = none → H c = none → H f = none → NetNew NC H H' r c f n → Q (.ref r) H'
/-- all of it stays when what was there before it is changed -/
theorem NetNew.put {NC : Addr} {H H' : Hp} {r c f D : Addr} {n : LNet} {o u : HO} (h : NetNew NC H H' r c f n) (hr : H r = none) (hc : H c = none) (hf : H f = none) (hD : H D = some o) : NetAt NC (upd H' D u) r n := by
  obtain ⟨dx, d, h0, h1, h2, h3, h4⟩ := h
  have ne : ∀ {x : Addr}, H x = none → x ≠ D := fun {x} z e => by
    rw [e, hD] at z
    cases z
  exact ⟨dx, c, f, d, by rw [upd_ne (ne hr)]; exact h1, by rw [upd_ne (ne hc)]; exact h2, by rw [upd_ne (ne hf)]; exact h3, by rw [upd_ne (ne h0)]; exact h4⟩
section
variable {P : Program} {w : World} {K : PySem.W.Frag} {mg : Str → Option Value} {base : Heap}
def spRen : Sp := fun vs H Q _ => ∃ p s : Nat, vs = [.int (p : Nat), .int (s : Nat)] ∧ p < 2 ^ 2000 ∧ s ≤ 2000 ∧ Q (.int (ren p s : Nat)) H
theorem ok_ren {f : Addr} {fd : FuncData} (F : FnP K "renumbered" "renumbered" s_renumbered f fd) (gS : ∃ t, mg "START" = some (.int 1 t)) : FnOk P w K mg base CX0 1 f fd ["places", "shift"] spRen := by
  obtain ⟨t, gS⟩ := gS
  refine F.ok sc_renumbered (fun vs H Q E h => ?_) (fun cdv A outer s H vs Q E hr h => ?_)
  · obtain ⟨p, s, rfl, _⟩ := h
    rfl
  · obtain ⟨p, s, rfl, hp, hs, q⟩ := h
    refine ⟨_, PSs.nox (pss_one (ps_ret (pe_op op_orNat (pe_op op_shlNat (pe_op op_shrNat (pv 0) pe_int) (pe_op op_addNat pe_int (pv 1))) (pe_op op_andNat (pv 0) (pe_glob (v := .int 1) (by rfl) gS ⟨_, rfl⟩))))), ?_⟩
    refine ⟨_, rfl, p, 1, rfl, rfl, _, rfl, 1, s, rfl, rfl, p >>> 1, 1 + s, rfl, rfl, ?_, by omega, _, rfl, p, 1, rfl, rfl, _, _, rfl, rfl, q⟩
    exact Nat.lt_of_le_of_lt (shr_le _ _) (lt_mono hp (by decide))
/-- how Net(..) is made -/
def CanNet (P : Program) (w : World) (K : PySem.W.Frag) (mg : Str → Option Value) (base : Heap) (NC : Addr) (k : Nat) : Prop := ∃ f fd, Mk K NC f ∧ mg "Net" = some (.ref NC) ∧ Binds K fd ["self", "chars", "follow", "exits"] [] ∧
  FnOk P w K mg base CX0 k f fd ["self", "chars", "follow", "exits"] (fun vs H Q _ => ∃ (p dx c f : Addr) (n : LNet), vs = [.ref p, .ref c, .ref f, .int (n.exits : Nat)] ∧ n.Ok ∧ H p = some (.ins NC dx []) ∧ H c = some (.lst (strsV n.chars)) ∧ H f = some (.lst (intsV n.follow)) ∧
    ∀ H', (∀ x o, H x = some o → x ≠ p → H' x = some o) → NetNew NC H H' p c f n → Q .non H')
theorem make_net {NC c f : Addr} {H : Hp} {Q : VK} {n : LNet} (ok : n.Ok) (hc : H c = some (.lst (strsV n.chars))) (hf : H f = some (.lst (intsV n.follow))) (q : ∀ r H', Same H H' → H r = none → NetNew NC H H' r c f n → Q (.ref r) H') : ∀ x dx, H x = none → H dx = none → dx ≠ x →
    (fun (vs : List V) (H : Hp) (Q : VK) (_ : XK) => ∃ (p dx c f : Addr) (n : LNet), vs = [.ref p, .ref c, .ref f, .int (n.exits : Nat)] ∧ n.Ok ∧ H p = some (.ins NC dx []) ∧ H c = some (.lst (strsV n.chars)) ∧ H f = some (.lst (intsV n.follow)) ∧
      ∀ H', (∀ x o, H x = some o → x ≠ p → H' x = some o) → NetNew NC H H' p c f n → Q .non H') (.ref x :: ([.ref c, .ref f, .int (n.exits : Nat)] ++ [])) (upd (upd H dx (.own x)) x (.ins NC dx [])) (fun v H2 => v = .non ∧ Q (.ref x) H2) E0 := by
  intro x dx hx hdx ne
  have far : ∀ {b : Addr} {o : HO}, H b = some o → (upd (upd H dx (.own x)) x (.ins NC dx [])) b = some o := fun {b o} e => by
    rw [upd_ne (ne_of_none e hx), upd_ne (ne_of_none e hdx)]
    exact e
  exact ⟨x, dx, c, f, n, rfl, ok, upd_same, far hc, far hf, fun H' k e => ⟨rfl, q x H' (fun b o z => k b o (far z) (ne_of_none z hx)) hx (e.of fun b o z => far z)⟩⟩
end
end K14

set_option autoImplicit false
/-! Steps through a reading. -/
namespace Tl
open PySem PySem.Spec PyProof.Rows L2
theorem asg_go {te : TE} {g : TG} {D : Ends} {σ : L2.St} {H : Hp} (h : te σ H fun x H1 => g x σ H1 D.nx) : tAsg te g D σ H := h
theorem seq_go {t u : TS} {D : Ends} {σ : L2.St} {H : Hp} (h : t { D with nx := u D } σ H) : tSeq t u D σ H := h
theorem name_go {i : Nat} {v : V} {σ : L2.St} {H : Hp} {Q : L2.St → Hp → Prop} (h : Q (σ.set i (some v)) H) : gName i v σ H Q := h
theorem yes_keep {σ : L2.St} {H : Hp} {Ya Na : Hp → Prop} (h : Ya H) : tYes σ H (fun b H3 => if b = true then Ya H3 else Na H3) := by
  show if true = true then Ya H else Na H
  rw [if_pos rfl]
  exact h
theorem rep_flat {α : Type} (x : α) : ∀ n : Nat, (List.replicate n [x]).flatten = List.replicate n x
  | 0 => rfl
  | n + 1 => by rw [List.replicate_succ, List.flatten_cons, rep_flat x n, List.replicate_succ]; rfl
theorem te_go {t : TE} {σ : L2.St} {H : Hp} {Q : VK} (v : V) (h : ∀ Q' : VK, Q' v H → t σ H Q') (q : Q v H) : t σ H Q := h Q q
/-- an int as a test -/
theorem tru_int {X : Cx} : TruR X (fun x H Q => ∃ i, x = .int i ∧ Q (i != 0) H) := fun pins s σ H x v Q I r h => by
  obtain ⟨i, rfl, q⟩ := h
  exact tru_ok pins s σ H _ v Q I r ⟨_, rfl, q⟩
theorem pt_int {X : Cx} {a : Expr} {ta : TE} (ha : PE X a ta) (he : ∀ whole, isTrue a X.env whole = (do let v ← whole; standAt a.pos; holding [v] (truthy v)) := by intro _; rfl) : PT X a (fun σ H Q => ta σ H fun x H' => ∃ i, x = .int i ∧ Q (i != 0) H') := pt_truthR ha tru_int he
end Tl

set_option autoImplicit false
set_option maxErrors 4
namespace K14
open PySem PySem.Spec PyProof.Rows L2 Tl
abbrev mostV (m : Option Nat) : V := m.elim .non fun n => .int (n : Nat)
section
variable {P : Program} {w : World} {K : PySem.W.Frag} {mg : Str → Option Value} {base : Heap} {NC : Addr}
def spRunNet (NC : Addr) : Sp := fun vs H Q _ => ∃ (sg : Str) (l : Nat) (m : Option Nat), vs = [.str sg, .int (l : Nat), mostV m] ∧ sg.cps.size ≤ 1000 ∧ (∀ n, m = some n → l ≤ n) ∧ pcL l m ≤ 500 ∧ GivesNet NC H Q (runL sg l m)
theorem ok_run_net {k : Nat} {f : Addr} {fd : FuncData} (F : FnP K "run_net" "run_net" s_run_net f fd) (N : Nms mg) (C : Can P w K mg base CX0 "place_count" ["least", "most"] 1 spPc) (M : CanNet P w K mg base NC k) : FnOk P w K mg base CX0 (k + 2) f fd ["signs", "least", "most"] (spRunNet NC) := by
  obtain ⟨fC, fdC, GC, gC, kC, bC⟩ := C
  obtain ⟨fM, fdM, MM, gM, bM, GM⟩ := M
  have nd := sc_run_net.nd
  refine F.ok sc_run_net (fun vs H Q E h => ?_) (fun cdv A outer s H vs Q E hr h => ?_)
  · obtain ⟨sg, l, m, rfl, _⟩ := h
    rfl
  · obtain ⟨sg, l, m, rfl, hsg, hl, hp, q⟩ := h
    refine ⟨_, PSs.nox (pss_cons (ps_set (i := 3) nd rfl (.inl rfl) (pe_call GC (hr.mono (by omega)) (by rfl) gC kC bC .nil pass0 (pa_cons (pv 1) (pa_cons (pv 2) pa_nil))))
      (pss_cons (ps_set (i := 4) nd rfl (.inl rfl) (pe_ifExp (pt_cmpR op_isN (pv 2) pe_non (nomark _)) (pe_op op_shlNat pe_int (pv 3)) pe_int))
      (pss_cons (ps_set (i := 6) nd rfl (.inl rfl) (pe_op op_cat (pe_lc (own := [("taken", 5)]) (g := gName 5) (tt := tYes) rfl nd (pi_range1 rfl N.range (pa_cons (pv 3) pa_nil)) (blkOk_by (N := ["signs", "least", "most", "count", "after_last", "taken", "follow", "exits"]) (sc := defScope s_run_net) (by decide +kernel)) (fun _ _ _ _ _ => pg_name (i := 5) nd rfl (Or.inl rfl)) (fun _ _ _ _ _ => pts_nil)
          (fun _ _ _ _ _ => pe_op op_shlNat pe_int (pe_op op_addNat pe_int (pv 5)))) (pe_lst (pa_cons (pv 4) pa_nil))))
      (pss_cons (ps_set (i := 7) nd rfl (.inl rfl) (pe_op op_subNat (pe_op op_shlNat pe_int (pe_op op_addNat (pv 3) pe_int)) (pe_op op_shlNat pe_int (pv 1))))
      (pss_one (ps_ret (pe_make MM GM hr (by rfl) gM bM .nil pass0 (pa_cons (pe_op op_rep (pe_lst (pa_cons (pv 0) pa_nil)) (pv 3)) (pa_cons (pv 6) (pa_cons (pv 7) pa_nil)))))))))), ?_⟩
    refine ⟨_, rfl, _, rfl, l, m, rfl, ?_⟩
    refine name_go ?_
    dsimp only
    have ec : m.getD (Nat.max l 1) = pcL l m := rfl
    rw [ec]
    have lc := pcL_le hl
    refine seq_go (asg_go ?_)
    have wide : 1 < 2 ^ 4000 := Nat.lt_of_lt_of_le (show 1 < 2 ^ 1 by decide) (Nat.pow_le_pow_right (by decide) (by decide))
    refine te_go (.int ((m.elim (1 <<< pcL l m) fun _ => 0 : Nat) : Int)) (fun Q' z => ?_) ?_
    · cases m with
      | none => exact ⟨_, rfl, rfl, _, rfl, iteT ⟨_, rfl, 1, pcL l none, rfl, rfl, wide, by omega, z⟩⟩
      | some n => exact ⟨_, rfl, rfl, _, rfl, iteF z⟩
    refine name_go ?_
    dsimp only
    refine seq_go (asg_go ?_)
    have tn : ((pcL l m : Nat) : Int).toNat = pcL l m := Int.toNat_natCast _
    refine ⟨_, rfl, ((pcL l m : Nat) : Int), rfl, by omega, by omega, fun D hD => ?_⟩
    refine lc_range (lo := 0) (n := ((pcL l m : Nat) : Int).toNat) (fun i H' => H' D = some (.lst (intsV ((List.range i).map fun t => 1 <<< (1 + t)))) ∧ Same H H') ⟨upd_same, same_new hD⟩ ?_ ?_
    · rintro i H' hi ⟨e, sm⟩
      rw [tn] at hi
      refine ⟨rfl, yes_keep ?_⟩
      have ei : (0 : Int) + (i : Int) = ((i : Nat) : Int) := Int.zero_add _
      rw [ei]
      refine ⟨_, rfl, 1, i, rfl, rfl, 1, 1 + i, rfl, rfl, wide, by omega, _, e, ?_, ?_, ?_⟩
      · unfold intsV
        rw [List.length_map, List.length_map, List.length_range]
        exact small1000 (by omega)
      · rw [upd_same, List.range_succ]
        unfold intsV
        rw [List.map_append, List.map_append]
        rfl
      · intro x u z
        rw [upd_ne (ne_of_none z hD)]
        exact sm _ _ z
    · rintro H1 ⟨e1, s1⟩
      rw [tn] at e1
      have r1 := runL_ok (sg := sg) hsg hl (Nat.le_trans hp (by decide))
      refine ⟨_, rfl, line_small (by show 1 ≤ 16777216; decide), fun b hb => ?_⟩
      have s2 := s1.trans (same_new (o := .lst [.int ((m.elim (1 <<< pcL l m) fun _ => 0 : Nat) : Int)]) hb)
      refine ⟨D, b, _, [.int ((m.elim (1 <<< pcL l m) fun _ => 0 : Nat) : Int)], rfl, rfl, (same_new hb) _ _ e1, upd_same, ?_, fun fo hfo => ?_⟩
      · unfold intsV
        rw [List.length_map, List.length_map, List.length_range]
        exact line_small (by show pcL l m + 1 ≤ 16777216; omega)
      have ef : intsV ((List.range (pcL l m)).map fun t => 1 <<< (1 + t)) ++ [.int ((m.elim (1 <<< pcL l m) fun _ => 0 : Nat) : Int)] = intsV (runL sg l m).follow := by
        unfold intsV runL
        rw [List.map_append]
        rfl
      rw [ef]
      have s3 := s2.trans (same_new (o := .lst (intsV (runL sg l m).follow)) hfo)
      refine name_go ?_
      dsimp only
      refine seq_go (asg_go ?_)
      have le : 1 <<< l ≤ 1 <<< (pcL l m + 1) := by
        rw [one_shl, one_shl]
        exact Nat.pow_le_pow_right (by decide) (by omega)
      refine ⟨_, rfl, pcL l m, 1, rfl, rfl, 1, pcL l m + 1, rfl, rfl, wide, by omega, _, rfl, 1, l, rfl, rfl, wide, by omega, _, _, rfl, rfl, le, ?_⟩
      refine name_go ?_
      dsimp only
      refine ⟨_, rfl, line_small (by show 1 ≤ 16777216; decide), fun b2 hb2 => ?_⟩
      refine ⟨_, rfl, b2, ((pcL l m : Nat) : Int), _, rfl, rfl, upd_same, by omega, by omega, ?_, fun c hc => ?_⟩
      · rw [tn]
        exact line_small (by show 1 * pcL l m ≤ 16777216; omega)
      have ec2 : (List.replicate ((pcL l m : Nat) : Int).toNat [V.str sg]).flatten = strsV (runL sg l m).chars := by
        rw [tn, rep_flat]
        unfold strsV runL
        rw [List.map_replicate]
      rw [ec2]
      have k1 := same_new (o := .lst [V.str sg]) hb2
      have k2 := same_new (o := .lst (strsV (runL sg l m).chars)) hc
      refine ⟨_, rfl, _, rfl, ?_⟩
      exact make_net (n := runL sg l m) r1 upd_same (k2 _ _ (k1 _ _ upd_same)) fun r H' sm hr0 at_ => q r c fo H' (((s3.trans k1).trans k2).trans sm) (((s3.trans k1).trans k2).free hr0) ((s3.trans k1).free hc) (s2.free hfo) (at_.of ((s3.trans k1).trans k2))
end
end K14

set_option autoImplicit false
set_option maxErrors 4
namespace K14
open PySem PySem.Spec PyProof.Rows L2 Tl
/-! ### nets one after the other -/
def joinF (fo : List Nat) (ex first : Nat) : List Nat := (List.range fo.length).map fun j => if (ex >>> j) &&& 1 = 0 then fo.getD j 0 else fo.getD j 0 ||| first
def chainStep (a n : LNet) : LNet :=
  ⟨a.chars ++ n.chars, joinF a.follow a.exits (ren (n.follow.getD 0 0) a.chars.length) ++ (n.follow.drop 1).map (fun x => ren x a.chars.length), ren (n.exits / 2 * 2) a.chars.length ||| (if n.exits &&& 1 = 0 then 0 else a.exits)⟩
def chain0 : LNet := ⟨[], [0], 1⟩
def chainL (ns : List LNet) : LNet := ns.foldl chainStep chain0
theorem chain0_ok : chain0.Ok := ⟨rfl, Nat.zero_le _, fun x hx => by rw [List.mem_singleton.mp hx]; decide, by decide, fun s h => by cases h⟩
theorem getD_lt {fo : List Nat} {k j : Nat} (h : ∀ x ∈ fo, x < 2 ^ k) : fo.getD j 0 < 2 ^ k := by
  by_cases z : j < fo.length
  · rw [List.getD_eq_getElem?_getD, List.getElem?_eq_getElem z]
    exact h _ (List.getElem_mem z)
  · rw [List.getD_eq_getElem?_getD, List.getElem?_eq_none (Nat.not_lt.mp z)]
    exact Nat.two_pow_pos _
theorem chainStep_ok {a n : LNet} (ha : a.Ok) (hn : n.Ok) (small : a.chars.length + n.chars.length ≤ 1000) : (chainStep a n).Ok := by
  obtain ⟨a1, a2, a3, a4, a5⟩ := ha
  obtain ⟨n1, n2, n3, n4, n5⟩ := hn
  have up : ∀ {x : Nat}, x < 2 ^ (n.chars.length + 1) → ren x a.chars.length < 2 ^ (a.chars.length + n.chars.length + 1) := fun {x} h => by
    have z := ren_lt (s := a.chars.length) h
    rw [show n.chars.length + a.chars.length + 1 = a.chars.length + n.chars.length + 1 by omega] at z
    exact z
  have wd : ∀ {x : Nat}, x < 2 ^ (a.chars.length + 1) → x < 2 ^ (a.chars.length + n.chars.length + 1) := fun {x} h => lt_mono h (by omega)
  unfold LNet.Ok chainStep joinF
  simp only [List.length_append, List.length_map, List.length_range, List.length_drop]
  refine ⟨by omega, small, fun x hx => ?_, ?_, fun s h => (List.mem_append.mp h).elim (a5 s) (n5 s)⟩
  · rcases List.mem_append.mp hx with hx | hx
    · obtain ⟨j, _, rfl⟩ := List.mem_map.mp hx
      split
      · exact wd (getD_lt a3)
      · exact or_lt (wd (getD_lt a3)) (up (getD_lt n3))
    · obtain ⟨y, hy, rfl⟩ := List.mem_map.mp hx
      exact up (n3 y (List.mem_of_mem_drop hy))
  · refine or_lt (up ?_) ?_
    · omega
    · split
      · exact Nat.two_pow_pos _
      · exact wd a4
def charsOf (ns : List LNet) : Nat := (ns.map fun n => n.chars.length).sum
theorem cut_one {xs : List V} : cutV xs (some 1) none = xs.drop 1 := by
  unfold cutV
  cases xs with
  | nil => rfl
  | cons x r =>
    have e1 : HT.sIx (x :: r).length 0 (some 1) = 1 := by
      unfold HT.sIx
      simp
    have e2 : HT.sIx (x :: r).length (x :: r).length none = (x :: r).length := by
      unfold HT.sIx
      simp
    rw [e1, e2]
    exact List.take_of_length_le (by simp)
theorem intsV_drop (xs : List Nat) (n : Nat) : (intsV xs).drop n = intsV (xs.drop n) := by
  unfold intsV
  rw [List.map_drop]
theorem intsV_app (xs ys : List Nat) : intsV xs ++ intsV ys = intsV (xs ++ ys) := by
  unfold intsV
  rw [List.map_append]
theorem intsV_len (xs : List Nat) : (intsV xs).length = xs.length := List.length_map _
theorem intsV_get {xs : List Nat} {i : Nat} (h : i < xs.length) : (intsV xs)[i]? = some (.int (xs.getD i 0 : Nat)) := by
  unfold intsV
  rw [List.getElem?_map, List.getD_eq_getElem?_getD, List.getElem?_eq_getElem h]
  rfl
end K14

set_option autoImplicit false
set_option maxErrors 4
namespace K14
open PySem PySem.Spec PyProof.Rows L2 Tl
/-- what is asked of the class Net -/
structure NetC (K : PySem.W.Frag) (NC : Addr) : Prop where
  cl : Cls K NC
  n1 : NoAttr K NC "chars"
  n2 : NoAttr K NC "follow"
  n3 : NoAttr K NC "exits"
  n4 : NoAttr K NC "stands_for"
abbrev Prs := List (Addr × LNet)
/-- nets in a list -/
def NetsAt (NC : Addr) (H : Hp) (ps : Prs) : Prop := ∀ x ∈ ps, NetAt NC H x.1 x.2 ∧ x.2.Ok
theorem NetsAt.same {NC : Addr} {H H' : Hp} {ps : Prs} (h : NetsAt NC H ps) (s : Same H H') : NetsAt NC H' ps := fun x hx => ⟨(h x hx).1.same s, (h x hx).2⟩
def refsP (ps : Prs) : List V := ps.map fun x => V.ref x.1
def netsP (ps : Prs) : List LNet := ps.map (·.2)
def spNets (NC : Addr) (f : List LNet → LNet) : Sp := fun vs H Q _ => ∃ (l : Addr) (ps : Prs), vs = [.ref l] ∧ H l = some (.lst (refsP ps)) ∧ NetsAt NC H ps ∧ charsOf (netsP ps) ≤ 500 ∧ GivesNet NC H Q (f (netsP ps))
abbrev netF (c f d : Addr) (e : Nat) : List (Str × V) := [("chars", .ref c), ("follow", .ref f), ("exits", .int (e : Nat)), ("stands_for", .ref d)]
theorem lk_ne {f g : Str} {v : V} {r : List (Str × V)} (h : (f == g) = false) : ((g, v) :: r).lookup f = r.lookup f := by
  rw [List.lookup, h]
theorem lk_hit {f : Str} {v : V} {r : List (Str × V)} : ((f, v) :: r).lookup f = some v := by
  rw [List.lookup, beq_self_eq_true]
theorem lkC {c f d : Addr} {e : Nat} : (netF c f d e).lookup ("chars" : Str) = some (.ref c) := lk_hit
theorem lkF {c f d : Addr} {e : Nat} : (netF c f d e).lookup ("follow" : Str) = some (.ref f) := (lk_ne (by decide +kernel)).trans lk_hit
theorem lkE {c f d : Addr} {e : Nat} : (netF c f d e).lookup ("exits" : Str) = some (.int (e : Nat)) := (lk_ne (by decide +kernel)).trans ((lk_ne (by decide +kernel)).trans lk_hit)
theorem fold_take {α β : Type} (f : β → α → β) (b : β) (xs : List α) {i : Nat} {x : α} (h : xs[i]? = some x) : (xs.take (i + 1)).foldl f b = f ((xs.take i).foldl f b) x := by
  rw [List.take_add_one, h, List.foldl_append]
  rfl
theorem charsOf_take (ns : List LNet) (i : Nat) : charsOf (ns.take i) ≤ charsOf ns := by
  have e : charsOf ns = charsOf (ns.take i) + charsOf (ns.drop i) := by
    unfold charsOf
    rw [← List.sum_append, ← List.map_append, List.take_append_drop]
  omega
theorem charsOf_succ (ns : List LNet) {i : Nat} {n : LNet} (h : ns[i]? = some n) : charsOf (ns.take (i + 1)) = charsOf (ns.take i) + n.chars.length := by
  unfold charsOf
  rw [List.take_add_one, h, List.map_append, List.sum_append]
  simp
section
variable {P : Program} {w : World} {K : PySem.W.Frag} {mg : Str → Option Value} {base : Heap} {NC : Addr}
abbrev rOrN : R2 := fun x y H Q => ∃ n m : Nat, x = .int n ∧ y = .int m ∧ Q (.int ((n ||| m : Nat) : Int)) H
set_option maxHeartbeats 20000000 in
theorem ok_chained {k : Nat} {f : Addr} {fd : FuncData} (F : FnP K "chained" "chained" s_chained f fd) (N : Nms mg) (gS : ∃ t, mg "START" = some (.int 1 t)) (T : NetC K NC) (R : Can P w K mg base CX0 "renumbered" ["places", "shift"] 1 spRen) (M : CanNet P w K mg base NC k) : FnOk P w K mg base CX0 (k + 2) f fd ["nets"] (spNets NC chainL) := by
  obtain ⟨tS, gS⟩ := gS
  obtain ⟨fR, fdR, GR, gR, kR, bR⟩ := R
  obtain ⟨fM, fdM, MM, gM, bM, GM⟩ := M
  have nd := sc_chained.nd
  refine F.ok sc_chained (fun vs H Q E h => ?_) (fun cdv A outer s H vs Q E hr h => ?_)
  · obtain ⟨l, ps, rfl, _⟩ := h
    rfl
  · obtain ⟨l, ps, rfl, hl, hn, hc, q⟩ := h
    have r1 := hr.mono (show 1 ≤ k + 1 by omega)
    refine ⟨_, PSs.nox (pss_cons (ps_set (i := 1) nd rfl (by first | exact .inl rfl | exact .inr rfl) (pe_lst pa_nil))
      (pss_cons (ps_set (i := 2) nd rfl (by first | exact .inl rfl | exact .inr rfl) (pe_lst (pa_cons pe_int pa_nil)))
      (pss_cons (ps_set (i := 3) nd rfl (by first | exact .inl rfl | exact .inr rfl) (pe_glob (v := .int 1) (by rfl) gS ⟨_, rfl⟩))
      (pss_cons (ps_for PassesOwn.never rfl (pi_list (pv 0)) (pg_name (i := 4) nd rfl (by first | exact .inl rfl | exact .inr rfl))
        (pss_cons (ps_set (i := 5) nd rfl (by first | exact .inl rfl | exact .inr rfl) (pe_callB call_len_seq (by rfl) N.len PySem.boot_len (pa_cons (pv 1) pa_nil)))
        (pss_cons (ps_set (i := 6) nd rfl (by first | exact .inl rfl | exact .inr rfl) (pe_call GR r1 (by rfl) gR kR bR .nil pass0 (pa_cons (pe_ix ix_list (pe_fld (pv 4) rfl) pe_int (fun _ _ => rfl)) (pa_cons (pv 5) pa_nil))))
        (pss_cons (ps_setLc (i := 2) (own := [("at", 7), ("ways", 8)]) (g := gTup K 2 (gCons (gName 7) (gCons (gName 8) gNil))) (tt := tYes) rfl nd rfl rfl rfl (pi_enum (by rfl) N.enumerate (pa_cons (pv 2) pa_nil)) (blkOk_by (N := ["nets", "chars", "follow", "exits", "net", "shift", "first", "at", "ways", "earlier"]) (sc := defScope s_chained) (by decide +kernel))
            (fun _ _ _ _ _ => pg_tup rfl (pgs_cons (pg_name (i := 7) nd rfl (Or.inl rfl) (Or.inr rfl)) (pgs_cons (pg_name (i := 8) nd rfl (Or.inl rfl) (Or.inr rfl)) pgs_nil))) (fun _ _ _ _ _ => pts_nil)
            (fun _ _ _ _ _ => pe_ifExp (pt_int (pe_op op_andNat (pe_op op_shrNat (pv 3) (pv 7)) pe_int)) (pe_op op_orNat (pv 8) (pv 6)) (pv 8)))
        (pss_cons (ps_set (i := 2) nd rfl (by first | exact .inl rfl | exact .inr rfl) (pe_op op_cat (pv 2) (pe_lc (own := [("ways", 8)]) (g := gName 8) (tt := tYes) rfl nd (pi_list (pe_slice sl_list (pe_fld (pv 4) rfl) (po_some pe_int) po_none)) (blkOk_by (N := ["nets", "chars", "follow", "exits", "net", "shift", "first", "at", "ways", "earlier"]) (sc := defScope s_chained) (by decide +kernel))
            (fun _ _ _ _ _ => pg_name (i := 8) nd rfl (Or.inl rfl)) (fun _ _ _ _ _ => pts_nil) (fun _ _ _ _ _ => pe_call GR r1 (by rfl) gR kR bR .nil pass0 (pa_cons (pv 8) (pa_cons (pv 5) pa_nil))))))
        (pss_cons (ps_set (i := 9) nd rfl (by first | exact .inl rfl | exact .inr rfl) (pe_ifExp (pt_int (pe_op op_andNat (pe_fld (pv 4) rfl) (pe_glob (v := .int 1) (by rfl) gS ⟨_, rfl⟩))) (pv 3) pe_int))
        (pss_cons (ps_set (i := 3) nd rfl (by first | exact .inl rfl | exact .inr rfl) (pe_op op_orNat (pe_call GR r1 (by rfl) gR kR bR .nil pass0 (pa_cons (pe_op op_andEven (pe_fld (pv 4) rfl) (pe_un un_inv (pe_glob (v := .int 1) (by rfl) gS ⟨_, rfl⟩))) (pa_cons (pv 5) pa_nil))) (pv 9)))
        (pss_one (ps_set (i := 1) nd rfl (by first | exact .inl rfl | exact .inr rfl) (pe_op op_cat (pv 1) (pe_fld (pv 4) rfl)))))))))))
      (pss_one (ps_ret (pe_make MM GM hr (by rfl) gM bM .nil pass0 (pa_cons (pv 1) (pa_cons (pv 2) (pa_cons (pv 3) pa_nil)))))))))), ?_⟩
    refine ⟨Nat.zero_le _, fun c hcn => ?_⟩
    have sc := same_new (o := .lst []) hcn
    refine ⟨line_small (by show 1 ≤ 16777216; decide), fun fo hfo => ?_⟩
    have sf := same_new (o := .lst [.int 0]) hfo
    refine ⟨_, rfl, l, rfl, ⟨_, SqL.of ((sc.trans sf) _ _ hl)⟩, ?_⟩
    refine for_list (xs := refsP ps) (fun i σ H' => ∃ (acc : LNet) (c fo : Addr) (x4 x5 x6 x7 x8 x9 : Option V), acc = ((netsP ps).take i).foldl chainStep chain0 ∧ acc.Ok ∧ acc.chars.length = charsOf ((netsP ps).take i) ∧
      σ = [some (.ref l), some (.ref c), some (.ref fo), some (.int (acc.exits : Nat)), x4, x5, x6, x7, x8, x9] ∧ H' c = some (.lst (strsV acc.chars)) ∧ H' fo = some (.lst (intsV acc.follow)) ∧ Same H H' ∧ H c = none ∧ H fo = none) ?_ ?_ ?_ ?_
    · exact ⟨chain0, c, fo, none, none, none, none, none, none, rfl, chain0_ok, rfl, rfl, sf _ _ upd_same, upd_same, sc.trans sf, hcn, sc.free hfo⟩
    · rintro i σ H' _ ⟨_, _, _, _, _, _, _, _, _, _, _, _, _, _, _, sm, _⟩
      exact SqL.of (sm _ _ hl)
    · rintro i x σ H1 hx ⟨acc, c, fo, x4, x5, x6, x7, x8, x9, ea, ok, len, rfl, hc1, hf1, sm, _, _⟩
      obtain ⟨p, hp, rfl⟩ : ∃ p, ps[i]? = some p ∧ x = .ref p.1 := by
        unfold refsP at hx
        rw [List.getElem?_map] at hx
        cases e : ps[i]? with
        | none =>
          rw [e] at hx
          cases hx
        | some p =>
          rw [e] at hx
          exact ⟨p, rfl, (Option.some.inj hx).symm⟩
      have mem : p ∈ ps := List.mem_of_getElem? hp
      obtain ⟨nat, nok⟩ := hn p mem
      have hnp : (netsP ps)[i]? = some p.2 := by
        unfold netsP
        rw [List.getElem?_map, hp]
        rfl
      have tot := charsOf_succ (netsP ps) hnp
      have le := charsOf_take (netsP ps) (i + 1)
      have small : acc.chars.length + p.2.chars.length ≤ 500 := by omega
      obtain ⟨a1, a2, a3, a4, a5⟩ := id ok
      obtain ⟨n1, n2, n3, n4, n5⟩ := id nok
      have nat1 := nat.same sm
      obtain ⟨dx, pc, pf, pd, q1, q2, q3, q4⟩ := nat1
      have wd : ∀ {x k : Nat}, k ≤ 1002 → x < 2 ^ k → x < 2 ^ 2000 := fun {x k} hk h => lt_mono h (by omega)
      have lenV : (strsV acc.chars).length = acc.chars.length := List.length_map _
      refine name_go ?_
      dsimp only
      refine seq_go (asg_go ?_)
      refine ⟨_, rfl, c, _, rfl, .inl (SqL.of hc1), ?_⟩
      rw [lenV]
      refine name_go ?_
      dsimp only
      refine seq_go (asg_go ?_)
      have g0 : atI (intsV p.2.follow) 0 = some (.int (p.2.follow.getD 0 0 : Nat)) := atI_nat (j := 0) (intsV_get (by omega))
      refine ⟨_, rfl, p.1, NC, dx, _, _, rfl, q1, T.cl, T.n2, lkF, pf, _, 0, _, rfl, rfl, SqL.of q3, g0, _, rfl, p.2.follow.getD 0 0, acc.chars.length, rfl, wd (k := p.2.chars.length + 1) (by omega) (getD_lt n3), by omega, ?_⟩
      generalize hfirst : ren (p.2.follow.getD 0 0) acc.chars.length = first
      refine name_go ?_
      dsimp only
      refine seq_go (asg_go ?_)
      -- the ways so far
      refine ⟨_, rfl, fo, _, rfl, SqL.of hf1, fun D hD => ?_⟩
      have lenF : (intsV acc.follow).length = acc.follow.length := intsV_len _
      have sD := same_new (o := .lst []) hD
      refine lc_it (n := acc.follow.length) (by rw [← lenF]; exact walk_enum) (fun j H' => H' D = some (.lst (intsV ((joinF acc.follow acc.exits first).take j))) ∧ Same H1 H') ⟨upd_same, sD⟩ (fun j H' _ h => SqL.of (h.2 _ _ hf1)) ?_ ?_
      · rintro j x H2 H3 hj ⟨e2, s2⟩ ⟨T3, y, z, rfl, hT, rfl, hy, hz⟩
        have ey : y = .int (j : Nat) := (Option.some.inj hy).symm
        have ez : z = .int (acc.follow.getD j 0 : Nat) := by
          have hz2 : (intsV acc.follow)[j]? = some z := hz
          rw [intsV_get hj] at hz2
          exact (Option.some.inj hz2).symm
        subst ey ez
        have sT := same_new (o := .tup [.int (j : Nat), .int (acc.follow.getD j 0 : Nat)]) hT
        refine ⟨T3, _, rfl, SqT.of upd_same, rfl, _, _, rfl, _, _, rfl, rfl, rfl, yes_keep ?_⟩
        refine ⟨_, rfl, _, rfl, acc.exits, j, rfl, rfl, acc.exits >>> j, 1, rfl, rfl, _, rfl, ?_⟩
        have nx : ∀ v : Nat, v = (joinF acc.follow acc.exits first).getD j 0 → ∃ ac, upd H2 T3 (.tup [.int (j : Nat), .int (acc.follow.getD j 0 : Nat)]) D = some (.lst ac) ∧ ac.length < sizeLine ∧
            upd (upd H2 T3 (.tup [.int (j : Nat), .int (acc.follow.getD j 0 : Nat)])) D (.lst (ac ++ [.int (v : Nat)])) D = some (.lst (intsV ((joinF acc.follow acc.exits first).take (j + 1)))) ∧ Same H1 (upd (upd H2 T3 (.tup [.int (j : Nat), .int (acc.follow.getD j 0 : Nat)])) D (.lst (ac ++ [.int (v : Nat)]))) := fun v ev => by
          have lj : (joinF acc.follow acc.exits first).length = acc.follow.length := by unfold joinF; simp
          refine ⟨_, sT _ _ e2, ?_, ?_, fun b o zb => ?_⟩
          · rw [intsV_len, List.length_take]
            exact small1000 (by omega)
          · rw [upd_same, List.take_add_one, List.getElem?_eq_getElem (by omega), ← intsV_app]
            rw [List.getD_eq_getElem?_getD, List.getElem?_eq_getElem (by omega)] at ev
            rw [ev]
            rfl
          · rw [upd_ne (ne_of_none zb hD)]
            exact sT _ _ (s2 _ _ zb)
        have jv : (joinF acc.follow acc.exits first).getD j 0 = if (acc.exits >>> j) &&& 1 = 0 then acc.follow.getD j 0 else acc.follow.getD j 0 ||| first := by
          unfold joinF
          rw [List.getD_eq_getElem?_getD, List.getElem?_map, List.getElem?_range hj]
          rfl
        by_cases hb : (acc.exits >>> j) &&& 1 = 0
        · rw [hb]
          refine iteF ?_
          exact ⟨_, rfl, nx _ (by rw [jv, if_pos hb])⟩
        · have hb1 : (((acc.exits >>> j &&& 1 : Nat) : Int) != 0) = true := by
            simp only [bne_iff_ne, ne_eq]
            omega
          refine (if_pos hb1).mpr ?_
          exact ⟨_, rfl, _, rfl, _, _, rfl, rfl, nx _ (by rw [jv, if_neg hb])⟩
      · rintro H2 ⟨e2, s2⟩
        have lj : (joinF acc.follow acc.exits first).length = acc.follow.length := by unfold joinF; simp
        rw [List.take_of_length_le (by omega)] at e2
        refine name_go ?_
        dsimp only
        refine seq_go (asg_go ?_)
        -- the rest of the net
        refine ⟨_, rfl, _, rfl, p.1, NC, dx, _, _, rfl, s2 _ _ q1, T.cl, T.n2, lkF, 1, rfl, pf, _, rfl, SqL.of (s2 _ _ q3), fun sl hsl => ?_⟩
        rw [cut_one, intsV_drop]
        have s3 := s2.trans (same_new (o := .lst (intsV (p.2.follow.drop 1))) hsl)
        have e3 := (same_new (o := .lst (intsV (p.2.follow.drop 1))) hsl) _ _ e2
        refine ⟨sl, rfl, ⟨_, SqL.of upd_same⟩, fun D2 hD2 => ?_⟩
        have sD2 := same_new (o := .lst []) hD2
        refine lc_it (n := (p.2.follow.drop 1).length) (by rw [← intsV_len (p.2.follow.drop 1)]; exact walk_list) (fun j H' => H' D2 = some (.lst (intsV (((p.2.follow.drop 1).take j).map fun x => ren x acc.chars.length))) ∧ Same (upd H2 sl (.lst (intsV (p.2.follow.drop 1)))) H') ⟨upd_same, sD2⟩ (fun j H' _ h => SqL.of (h.2 _ _ upd_same)) ?_ ?_
        · rintro j x H3 _ hj ⟨e4, s4⟩ ⟨rfl, hx2⟩
          rw [intsV_get hj] at hx2
          have ex := (Option.some.inj hx2).symm
          subst ex
          refine ⟨rfl, yes_keep ?_⟩
          refine ⟨_, rfl, _, rfl, _, acc.chars.length, rfl, wd (k := p.2.chars.length + 1) (by omega) (getD_lt fun x hx => n3 x (List.mem_of_mem_drop hx)), by omega, _, e4, ?_, ?_, fun b o zb => ?_⟩
          · rw [intsV_len, List.length_map, List.length_take]
            have h9 : (p.2.follow.drop 1).length = p.2.follow.length - 1 := List.length_drop
            exact small1000 (by omega)
          · rw [upd_same, List.take_add_one, List.getElem?_eq_getElem hj, List.map_append, ← intsV_app, List.getD_eq_getElem?_getD, List.getElem?_eq_getElem hj]
            rfl
          · rw [upd_ne (ne_of_none zb hD2)]
            exact s4 _ _ zb
        · rintro H3 ⟨e4, s4⟩
          rw [List.take_of_length_le (Nat.le_refl _)] at e4
          have h9 : (p.2.follow.drop 1).length = p.2.follow.length - 1 := List.length_drop
          have s5 : Same H1 H3 := s3.trans s4
          refine ⟨D, D2, _, _, rfl, rfl, s4 _ _ e3, e4, ?_, fun fo2 hfo2 => ?_⟩
          · rw [intsV_len, intsV_len, List.length_map, lj]
            exact line_small (by omega)
          rw [intsV_app]
          have ef2 : joinF acc.follow acc.exits first ++ (p.2.follow.drop 1).map (fun x => ren x acc.chars.length) = (chainStep acc p.2).follow := by
            unfold chainStep
            rw [hfirst]
          rw [ef2]
          have s6 := s5.trans (same_new (o := .lst (intsV (chainStep acc p.2).follow)) hfo2)
          refine name_go ?_
          dsimp only
          refine seq_go (asg_go ?_)
          refine te_go (.int ((if p.2.exits &&& 1 = 0 then 0 else acc.exits : Nat) : Int)) (fun Q' zq => ?_) ?_
          · refine ⟨_, rfl, p.1, NC, dx, _, _, rfl, s6 _ _ q1, T.cl, T.n3, lkE, p.2.exits, 1, rfl, rfl, _, rfl, ?_⟩
            by_cases hb : p.2.exits &&& 1 = 0
            · rw [if_pos hb] at zq
              rw [hb]
              exact iteF zq
            · rw [if_neg hb] at zq
              have hb1 : (((p.2.exits &&& 1 : Nat) : Int) != 0) = true := by
                simp only [bne_iff_ne, ne_eq]
                omega
              refine (if_pos hb1).mpr ?_
              exact ⟨_, rfl, zq⟩
          refine name_go ?_
          dsimp only
          refine seq_go (asg_go ?_)
          refine ⟨_, rfl, p.1, NC, dx, _, _, rfl, s6 _ _ q1, T.cl, T.n3, lkE, 1, rfl, p.2.exits, rfl, rfl, _, rfl, p.2.exits / 2 * 2, acc.chars.length, rfl, wd (k := p.2.chars.length + 1) (by omega) (by omega), by omega, _, rfl, _, _, rfl, rfl, ?_⟩
          refine name_go ?_
          dsimp only
          refine asg_go ?_
          refine ⟨_, rfl, _, rfl, p.1, NC, dx, _, _, rfl, s6 _ _ q1, T.cl, T.n1, lkC, c, pc, _, _, rfl, rfl, s6 _ _ hc1, s6 _ _ q2, ?_, fun c2 hc2 => ?_⟩
          · show (strsV acc.chars).length + (strsV p.2.chars).length ≤ sizeLine
            unfold strsV
            rw [List.length_map, List.length_map]
            exact line_small (by omega)
          have ec2 : strsV acc.chars ++ strsV p.2.chars = strsV (chainStep acc p.2).chars := by
            unfold strsV chainStep
            rw [List.map_append]
          rw [ec2]
          have s7 := same_new (o := .lst (strsV (chainStep acc p.2).chars)) hc2
          refine ⟨chainStep acc p.2, c2, fo2, _, _, _, _, _, _, ?_, chainStep_ok ok nok (by omega), ?_, rfl, upd_same, s7 _ _ upd_same, (sm.trans s6).trans s7, (sm.trans s6).free hc2, (sm.trans s5).free hfo2⟩
          · rw [fold_take chainStep chain0 (netsP ps) hnp, ← ea]
          · unfold chainStep
            rw [List.length_append]
            omega
    · rintro σ H1 ⟨acc, c, fo, x4, x5, x6, x7, x8, x9, ea, ok, len, rfl, hc1, hf1, sm, z1, z2⟩
      have lr : (refsP ps).length = (netsP ps).length := by unfold refsP netsP; rw [List.length_map, List.length_map]
      rw [lr, List.take_of_length_le (Nat.le_refl _)] at ea
      refine ⟨_, rfl, _, rfl, _, rfl, ?_⟩
      subst ea
      exact make_net (n := chainL (netsP ps)) ok hc1 hf1 fun r H' s2 hr0 at_ => q r c fo H' (sm.trans s2) (sm.free hr0) z1 z2 (at_.of sm)
end
end K14

set_option autoImplicit false
set_option maxErrors 4
namespace K14
open PySem PySem.Spec PyProof.Rows L2 Tl
/-! ### nets side by side -/
def sideStep (a n : LNet) : LNet :=
  ⟨a.chars ++ n.chars, (a.follow.getD 0 0 ||| ren (n.follow.getD 0 0) a.chars.length) :: (a.follow.drop 1 ++ (n.follow.drop 1).map fun x => ren x a.chars.length), a.exits ||| ren n.exits a.chars.length⟩
def side0 : LNet := ⟨[], [0], 0⟩
def sideL (ns : List LNet) : LNet := ns.foldl sideStep side0
theorem side0_ok : side0.Ok := ⟨rfl, Nat.zero_le _, fun x hx => by rw [List.mem_singleton.mp hx]; decide, by decide, fun s h => by cases h⟩
theorem sideStep_ok {a n : LNet} (ha : a.Ok) (hn : n.Ok) (small : a.chars.length + n.chars.length ≤ 1000) : (sideStep a n).Ok := by
  obtain ⟨a1, a2, a3, a4, a5⟩ := ha
  obtain ⟨n1, n2, n3, n4, n5⟩ := hn
  have up : ∀ {x : Nat}, x < 2 ^ (n.chars.length + 1) → ren x a.chars.length < 2 ^ (a.chars.length + n.chars.length + 1) := fun {x} h => by
    have z := ren_lt (s := a.chars.length) h
    rw [show n.chars.length + a.chars.length + 1 = a.chars.length + n.chars.length + 1 by omega] at z
    exact z
  have wd : ∀ {x : Nat}, x < 2 ^ (a.chars.length + 1) → x < 2 ^ (a.chars.length + n.chars.length + 1) := fun {x} h => lt_mono h (by omega)
  unfold LNet.Ok sideStep
  simp only [List.length_append, List.length_map, List.length_cons, List.length_drop]
  refine ⟨by omega, small, fun x hx => ?_, or_lt (wd a4) (up n4), fun s h => (List.mem_append.mp h).elim (a5 s) (n5 s)⟩
  rcases List.mem_cons.mp hx with rfl | hx
  · exact or_lt (wd (getD_lt a3)) (up (getD_lt n3))
  · rcases List.mem_append.mp hx with hx | hx
    · exact wd (a3 x (List.mem_of_mem_drop hx))
    · obtain ⟨y, hy, rfl⟩ := List.mem_map.mp hx
      exact up (n3 y (List.mem_of_mem_drop hy))
section
variable {P : Program} {w : World} {K : PySem.W.Frag} {mg : Str → Option Value} {base : Heap} {NC : Addr}
set_option maxHeartbeats 20000000 in
theorem ok_side {k : Nat} {f : Addr} {fd : FuncData} (F : FnP K "side_by_side" "side_by_side" s_side_by_side f fd) (N : Nms mg) (T : NetC K NC) (R : Can P w K mg base CX0 "renumbered" ["places", "shift"] 1 spRen) (M : CanNet P w K mg base NC k) : FnOk P w K mg base CX0 (k + 2) f fd ["nets"] (spNets NC sideL) := by
  obtain ⟨fR, fdR, GR, gR, kR, bR⟩ := R
  obtain ⟨fM, fdM, MM, gM, bM, GM⟩ := M
  have nd := sc_side_by_side.nd
  refine F.ok sc_side_by_side (fun vs H Q E h => ?_) (fun cdv A outer s H vs Q E hr h => ?_)
  · obtain ⟨l, ps, rfl, _⟩ := h
    rfl
  · obtain ⟨l, ps, rfl, hl, hn, hc, q⟩ := h
    have r1 := hr.mono (show 1 ≤ k + 1 by omega)
    refine ⟨_, PSs.nox (pss_cons (ps_set (i := 1) nd rfl (by first | exact .inl rfl | exact .inr rfl) (pe_lst pa_nil))
      (pss_cons (ps_set (i := 2) nd rfl (by first | exact .inl rfl | exact .inr rfl) pe_int)
      (pss_cons (ps_set (i := 3) nd rfl (by first | exact .inl rfl | exact .inr rfl) (pe_lst pa_nil))
      (pss_cons (ps_set (i := 4) nd rfl (by first | exact .inl rfl | exact .inr rfl) pe_int)
      (pss_cons (ps_for PassesOwn.never rfl (pi_list (pv 0)) (pg_name (i := 5) nd rfl (by first | exact .inl rfl | exact .inr rfl))
        (pss_cons (ps_set (i := 6) nd rfl (by first | exact .inl rfl | exact .inr rfl) (pe_callB call_len_seq (by rfl) N.len PySem.boot_len (pa_cons (pv 1) pa_nil)))
        (pss_cons (ps_set (i := 2) nd rfl (by first | exact .inl rfl | exact .inr rfl) (pe_op op_orNat (pv 2) (pe_call GR r1 (by rfl) gR kR bR .nil pass0 (pa_cons (pe_ix ix_list (pe_fld (pv 5) rfl) pe_int (fun _ _ => rfl)) (pa_cons (pv 6) pa_nil)))))
        (pss_cons (ps_set (i := 3) nd rfl (by first | exact .inl rfl | exact .inr rfl) (pe_op op_cat (pv 3) (pe_lc (own := [("ways", 7)]) (g := gName 7) (tt := tYes) rfl nd (pi_list (pe_slice sl_list (pe_fld (pv 5) rfl) (po_some pe_int) po_none)) (blkOk_by (N := ["nets", "chars", "first", "follow", "exits", "net", "shift", "ways"]) (sc := defScope s_side_by_side) (by decide +kernel))
            (fun _ _ _ _ _ => pg_name (i := 7) nd rfl (Or.inl rfl)) (fun _ _ _ _ _ => pts_nil) (fun _ _ _ _ _ => pe_call GR r1 (by rfl) gR kR bR .nil pass0 (pa_cons (pv 7) (pa_cons (pv 6) pa_nil))))))
        (pss_cons (ps_set (i := 4) nd rfl (by first | exact .inl rfl | exact .inr rfl) (pe_op op_orNat (pv 4) (pe_call GR r1 (by rfl) gR kR bR .nil pass0 (pa_cons (pe_fld (pv 5) rfl) (pa_cons (pv 6) pa_nil)))))
        (pss_one (ps_set (i := 1) nd rfl (by first | exact .inl rfl | exact .inr rfl) (pe_op op_cat (pv 1) (pe_fld (pv 5) rfl)))))))))
      (pss_one (ps_ret (pe_make MM GM hr (by rfl) gM bM .nil pass0 (pa_cons (pv 1) (pa_cons (pe_op op_cat (pe_lst (pa_cons (pv 2) pa_nil)) (pv 3)) (pa_cons (pv 4) pa_nil))))))))))), ?_⟩
    refine ⟨Nat.zero_le _, fun c hcn => ?_⟩
    have sc := same_new (o := .lst []) hcn
    refine ⟨Nat.zero_le _, fun fo hfo => ?_⟩
    have sf := same_new (o := .lst []) hfo
    refine ⟨_, rfl, l, rfl, ⟨_, SqL.of ((sc.trans sf) _ _ hl)⟩, ?_⟩
    refine for_list (xs := refsP ps) (fun i σ H' => ∃ (acc : LNet) (c fo : Addr) (x5 x6 x7 : Option V), acc = ((netsP ps).take i).foldl sideStep side0 ∧ acc.Ok ∧ acc.chars.length = charsOf ((netsP ps).take i) ∧
      σ = [some (.ref l), some (.ref c), some (.int (acc.follow.getD 0 0 : Nat)), some (.ref fo), some (.int (acc.exits : Nat)), x5, x6, x7] ∧ H' c = some (.lst (strsV acc.chars)) ∧ H' fo = some (.lst (intsV (acc.follow.drop 1))) ∧ Same H H' ∧ H c = none) ?_ ?_ ?_ ?_
    · exact ⟨side0, c, fo, none, none, none, rfl, side0_ok, rfl, rfl, sf _ _ upd_same, upd_same, sc.trans sf, hcn⟩
    · rintro i σ H' _ ⟨_, _, _, _, _, _, _, _, _, _, _, _, sm, _⟩
      exact SqL.of (sm _ _ hl)
    · rintro i x σ H1 hx ⟨acc, c, fo, x5, x6, x7, ea, ok, len, rfl, hc1, hf1, sm, _⟩
      obtain ⟨p, hp, rfl⟩ : ∃ p, ps[i]? = some p ∧ x = .ref p.1 := by
        unfold refsP at hx
        rw [List.getElem?_map] at hx
        cases e : ps[i]? with
        | none =>
          rw [e] at hx
          cases hx
        | some p =>
          rw [e] at hx
          exact ⟨p, rfl, (Option.some.inj hx).symm⟩
      have mem : p ∈ ps := List.mem_of_getElem? hp
      obtain ⟨nat, nok⟩ := hn p mem
      have hnp : (netsP ps)[i]? = some p.2 := by
        unfold netsP
        rw [List.getElem?_map, hp]
        rfl
      have tot := charsOf_succ (netsP ps) hnp
      have le := charsOf_take (netsP ps) (i + 1)
      have small : acc.chars.length + p.2.chars.length ≤ 500 := by omega
      obtain ⟨a1, a2, a3, a4, a5⟩ := id ok
      obtain ⟨n1, n2, n3, n4, n5⟩ := id nok
      have nat1 := nat.same sm
      obtain ⟨dx, pc, pf, pd, q1, q2, q3, q4⟩ := nat1
      have wd : ∀ {x k : Nat}, k ≤ 1002 → x < 2 ^ k → x < 2 ^ 2000 := fun {x k} hk h => lt_mono h (by omega)
      have lenV : (strsV acc.chars).length = acc.chars.length := List.length_map _
      refine name_go ?_
      dsimp only
      refine seq_go (asg_go ?_)
      refine ⟨_, rfl, c, _, rfl, .inl (SqL.of hc1), ?_⟩
      rw [lenV]
      refine name_go ?_
      dsimp only
      refine seq_go (asg_go ?_)
      have g0 : atI (intsV p.2.follow) 0 = some (.int (p.2.follow.getD 0 0 : Nat)) := atI_nat (j := 0) (intsV_get (by omega))
      refine ⟨_, rfl, _, rfl, p.1, NC, dx, _, _, rfl, q1, T.cl, T.n2, lkF, pf, _, 0, _, rfl, rfl, SqL.of q3, g0, _, rfl, p.2.follow.getD 0 0, acc.chars.length, rfl, wd (k := p.2.chars.length + 1) (by omega) (getD_lt n3), by omega, _, _, rfl, rfl, ?_⟩
      refine name_go ?_
      dsimp only
      refine seq_go (asg_go ?_)
      have s2 := Same.refl H1
      refine ⟨_, rfl, _, rfl, p.1, NC, dx, _, _, rfl, q1, T.cl, T.n2, lkF, 1, rfl, pf, _, rfl, SqL.of q3, fun sl hsl => ?_⟩
      rw [cut_one, intsV_drop]
      have s3 := same_new (o := .lst (intsV (p.2.follow.drop 1))) hsl
      refine ⟨sl, rfl, ⟨_, SqL.of upd_same⟩, fun D2 hD2 => ?_⟩
      have sD2 := same_new (o := .lst []) hD2
      refine lc_it (n := (p.2.follow.drop 1).length) (by rw [← intsV_len (p.2.follow.drop 1)]; exact walk_list) (fun j H' => H' D2 = some (.lst (intsV (((p.2.follow.drop 1).take j).map fun x => ren x acc.chars.length))) ∧ Same (upd H1 sl (.lst (intsV (p.2.follow.drop 1)))) H') ⟨upd_same, sD2⟩ (fun j H' _ h => SqL.of (h.2 _ _ upd_same)) ?_ ?_
      · rintro j x H3 _ hj ⟨e4, s4⟩ ⟨rfl, hx2⟩
        rw [intsV_get hj] at hx2
        have ex := (Option.some.inj hx2).symm
        subst ex
        refine ⟨rfl, yes_keep ?_⟩
        refine ⟨_, rfl, _, rfl, _, acc.chars.length, rfl, wd (k := p.2.chars.length + 1) (by omega) (getD_lt fun x hx => n3 x (List.mem_of_mem_drop hx)), by omega, _, e4, ?_, ?_, fun b o zb => ?_⟩
        · rw [intsV_len, List.length_map, List.length_take]
          have h9 : (p.2.follow.drop 1).length = p.2.follow.length - 1 := List.length_drop
          exact small1000 (by omega)
        · rw [upd_same, List.take_add_one, List.getElem?_eq_getElem hj, List.map_append, ← intsV_app, List.getD_eq_getElem?_getD, List.getElem?_eq_getElem hj]
          rfl
        · rw [upd_ne (ne_of_none zb hD2)]
          exact s4 _ _ zb
      · rintro H3 ⟨e4, s4⟩
        rw [List.take_of_length_le (Nat.le_refl _)] at e4
        have h9 : (p.2.follow.drop 1).length = p.2.follow.length - 1 := List.length_drop
        have h8 : (acc.follow.drop 1).length = acc.follow.length - 1 := List.length_drop
        have s5 : Same H1 H3 := s3.trans s4
        refine ⟨fo, D2, _, _, rfl, rfl, s5 _ _ hf1, e4, ?_, fun fo2 hfo2 => ?_⟩
        · rw [intsV_len, intsV_len, List.length_map]
          exact line_small (by omega)
        rw [intsV_app]
        have ef2 : acc.follow.drop 1 ++ (p.2.follow.drop 1).map (fun x => ren x acc.chars.length) = (sideStep acc p.2).follow.drop 1 := rfl
        rw [ef2]
        have s6 := s5.trans (same_new (o := .lst (intsV ((sideStep acc p.2).follow.drop 1))) hfo2)
        refine name_go ?_
        dsimp only
        refine seq_go (asg_go ?_)
        refine ⟨_, rfl, _, rfl, p.1, NC, dx, _, _, rfl, s6 _ _ q1, T.cl, T.n3, lkE, _, rfl, p.2.exits, acc.chars.length, rfl, wd (k := p.2.chars.length + 1) (by omega) n4, by omega, _, _, rfl, rfl, ?_⟩
        refine name_go ?_
        dsimp only
        refine asg_go ?_
        refine ⟨_, rfl, _, rfl, p.1, NC, dx, _, _, rfl, s6 _ _ q1, T.cl, T.n1, lkC, c, pc, _, _, rfl, rfl, s6 _ _ hc1, s6 _ _ q2, ?_, fun c2 hc2 => ?_⟩
        · show (strsV acc.chars).length + (strsV p.2.chars).length ≤ sizeLine
          unfold strsV
          rw [List.length_map, List.length_map]
          exact line_small (by omega)
        have ec2 : strsV acc.chars ++ strsV p.2.chars = strsV (sideStep acc p.2).chars := by
          unfold strsV sideStep
          rw [List.map_append]
        rw [ec2]
        have s7 := same_new (o := .lst (strsV (sideStep acc p.2).chars)) hc2
        refine ⟨sideStep acc p.2, c2, fo2, _, _, _, ?_, sideStep_ok ok nok (by omega), ?_, rfl, upd_same, s7 _ _ upd_same, (sm.trans s6).trans s7, (sm.trans s6).free hc2⟩
        · rw [fold_take sideStep side0 (netsP ps) hnp, ← ea]
        · unfold sideStep
          rw [List.length_append]
          omega
    · rintro σ H1 ⟨acc, c, fo, x5, x6, x7, ea, ok, len, rfl, hc1, hf1, sm, z1⟩
      have lr : (refsP ps).length = (netsP ps).length := by unfold refsP netsP; rw [List.length_map, List.length_map]
      rw [lr, List.take_of_length_le (Nat.le_refl _)] at ea
      obtain ⟨a1, a2, a3, a4, a5⟩ := id ok
      refine ⟨_, rfl, _, rfl, line_small (by show 1 ≤ 16777216; decide), fun b hb => ?_⟩
      have sb := same_new (o := .lst [.int (acc.follow.getD 0 0 : Nat)]) hb
      have h8 : (acc.follow.drop 1).length = acc.follow.length - 1 := List.length_drop
      refine ⟨_, rfl, b, fo, _, _, rfl, rfl, upd_same, sb _ _ hf1, ?_, fun f2 hf2 => ?_⟩
      · rw [intsV_len]
        exact line_small (by show 1 + _ ≤ 16777216; omega)
      have ef : [V.int (acc.follow.getD 0 0 : Nat)] ++ intsV (acc.follow.drop 1) = intsV acc.follow := by
        cases e : acc.follow with
        | nil =>
          rw [e] at a1
          cases a1
        | cons x r => rfl
      rw [ef]
      have sf2 := same_new (o := .lst (intsV acc.follow)) hf2
      refine ⟨_, rfl, ?_⟩
      subst ea
      exact make_net (n := sideL (netsP ps)) ok (sf2 _ _ (sb _ _ hc1)) upd_same fun r H' s2 hr0 at_ => q r c f2 H' (((sm.trans sb).trans sf2).trans s2) (((sm.trans sb).trans sf2).free hr0) z1 ((sm.trans sb).free hf2) (at_.of ((sm.trans sb).trans sf2))
end
end K14

set_option autoImplicit false
set_option maxErrors 4
namespace K14
open PySem PySem.Spec PyProof.Rows L2 Tl
theorem addN_length (d : SN) (s : Str) (v : Nat) : (addN d s v).length ≤ d.length + 1 := putN_length _ _ _
theorem range_fold {β : Type} (f : β → Nat → β) (b : β) (n : Nat) : (List.range (n + 1)).foldl f b = f ((List.range n).foldl f b) n := by
  rw [List.range_succ, List.foldl_append]
  rfl
def byStT (cs : List Str) (i : Nat) : SN := (List.range i).foldl (fun d i => addN d (cs.getD i default) (1 <<< (1 + i))) []
theorem byStT_len (cs : List Str) : ∀ i, (byStT cs i).length ≤ i
  | 0 => Nat.le_refl _
  | i + 1 => by
    unfold byStT
    rw [range_fold]
    exact Nat.le_trans (addN_length _ _ _) (Nat.succ_le_succ (byStT_len cs i))
theorem bySt_eq (cs : List Str) : bySt cs = byStT cs cs.length := rfl
theorem spread_take (c : SN) (s : Str) (v : Nat) (j : Nat) (x : Nat) (h : s.cps[j]? = some x) : ((s.cps.toList.take (j + 1)).foldl (fun c n => addN c ⟨#[n]⟩ v) c) = addN ((s.cps.toList.take j).foldl (fun c n => addN c ⟨#[n]⟩ v) c) ⟨#[x]⟩ v := by
  rw [List.take_add_one, Array.getElem?_toList, h, List.foldl_append]
  rfl
theorem putN_keys {d : SN} {s : Str} {v : Nat} {p : Str × Nat} (h : p ∈ putN d s v) : p.1 = s ∨ ∃ x ∈ d, x.1 = p.1 := by
  unfold putN at h
  split at h
  · obtain ⟨x, hx, rfl⟩ := List.mem_map.mp h
    split
    · exact .inr ⟨x, hx, rfl⟩
    · exact .inr ⟨x, hx, rfl⟩
  · rcases List.mem_append.mp h with h | h
    · exact .inr ⟨p, h, rfl⟩
    · rw [List.mem_singleton.mp h]
      exact .inl rfl
theorem byStT_keys (cs : List Str) : ∀ i, i ≤ cs.length → ∀ p ∈ byStT cs i, p.1 ∈ cs
  | 0, _, p, h => by cases h
  | i + 1, hi, p, h => by
    unfold byStT at h
    rw [range_fold] at h
    rcases putN_keys h with e | ⟨x, hx, e⟩
    · rw [e, List.getD_eq_getElem?_getD, List.getElem?_eq_getElem (by omega)]
      exact List.getElem_mem _
    · rw [← e]
      exact byStT_keys cs i (by omega) x hx
section
variable {P : Program} {w : World} {K : PySem.W.Frag} {mg : Str → Option Value} {base : Heap} {NC : Addr}
def spPbc : Sp := fun vs H Q _ => ∃ (c : Addr) (cs : List Str), vs = [.ref c] ∧ H c = some (.lst (strsV cs)) ∧ cs.length ≤ 1000 ∧ (∀ s ∈ cs, s.cps.size ≤ 1000) ∧ ∀ d H', Same H H' → H d = none → H' d = some (.dK (standsFor cs)) → Q (.ref d) H'
set_option maxHeartbeats 20000000 in
theorem ok_pbc {f : Addr} {fd : FuncData} (F : FnP K "places_by_char" "places_by_char" s_places_by_char f fd) (N : Nms mg) : FnOk P w K mg base CX0 1 f fd ["chars"] spPbc := by
  have nd := sc_places_by_char.nd
  refine F.ok sc_places_by_char (fun vs H Q E h => ?_) (fun cdv A outer s H vs Q E hr h => ?_)
  · obtain ⟨c, cs, rfl, _⟩ := h
    rfl
  · obtain ⟨c, cs, rfl, hc, len, sz, q⟩ := h
    have hu : (A.deeper (envOfC "places_by_char" (defScope s_places_by_char) s.heap.objs.size f cdv)).units + 1 < cLine := by have := hr.un; omega
    refine ⟨_, PSs.nox (pss_cons (ps_set (i := 1) nd rfl (.inl rfl) pe_dnewK)
      (pss_cons (ps_for PassesOwn.never rfl (pi_enum (by rfl) N.enumerate (pa_cons (pv 0) pa_nil)) (pg_tup rfl (pgs_cons (pg_name (i := 2) nd rfl (.inl rfl) (.inr rfl)) (pgs_cons (pg_name (i := 3) nd rfl (.inl rfl) (.inr rfl)) pgs_nil)))
        (pss_one (ps_dput hu (pv 1) (pv 3) (pe_op op_orNat (pe_dget2 hu (pv 1) (pv 3) pe_int ⟨rfl, rfl, rfl, rfl⟩) (pe_op op_shlNat pe_int (pe_op op_addNat pe_int (pv 2)))) rfl)))
      (pss_cons (ps_set (i := 4) nd rfl (.inl rfl) pe_dnewK)
      (pss_cons (ps_lock (ps_for PassesOwn.never rfl (pi_items (pv 1)) (pg_tup rfl (pgs_cons (pg_name (i := 3) nd rfl (.inl rfl) (.inr rfl)) (pgs_cons (pg_name (i := 5) nd rfl (.inl rfl) (.inr rfl)) pgs_nil)))
        (pss_one (ps_for PassesOwn.never rfl (pi_str (pv 3)) (pg_name (i := 6) nd rfl (.inl rfl))
          (pss_one (ps_dput hu (pv 4) (pv 6) (pe_op op_orNat (pe_dget2 hu (pv 4) (pv 6) pe_int ⟨rfl, rfl, rfl, rfl⟩) (pv 5)) rfl))))))
      (pss_one (ps_ret (pv 4))))))), ?_⟩
    intro d hd
    have sd := same_new (o := .dK []) hd
    have wide : 1 < 2 ^ 4000 := Nat.lt_of_lt_of_le (show 1 < 2 ^ 1 by decide) (Nat.pow_le_pow_right (by decide) (by decide))
    have gv : ∀ (D : SN) (s : Str), (valV (kvsV D) (Sum.inr s)).getD (.int 0) = .int (((getN D s).getD 0 : Nat) : Int) := fun D s => by
      rw [kvsV_get]
      cases getN D s <;> rfl
    have lenV : (strsV cs).length = cs.length := List.length_map _
    have lenK : ∀ D : SN, (kvsV D).length = D.length := fun D => List.length_map _
    have getV : ∀ {j : Nat}, j < cs.length → (strsV cs)[j]? = some (.str (cs.getD j default)) := fun {j} hj => by
      unfold strsV
      rw [List.getElem?_map, List.getElem?_eq_getElem hj, List.getD_eq_getElem?_getD, List.getElem?_eq_getElem hj]
      rfl
    refine name_go ?_
    dsimp only
    refine seq_go ?_
    refine ⟨_, rfl, c, _, rfl, SqL.of (sd _ _ hc), ?_⟩
    refine for_it (n := cs.length) (by rw [← lenV]; exact walk_enum) (fun i σ H' => ∃ x2 x3 x4 x5 x6 : Option V, σ = [some (.ref c), some (.ref d), x2, x3, x4, x5, x6] ∧ H' d = some (.dK (kvsV (byStT cs i))) ∧ Same H H') ⟨none, none, none, none, none, rfl, upd_same, sd⟩ (fun i σ H' _ h => by
      obtain ⟨_, _, _, _, _, _, _, sm⟩ := h
      exact SqL.of (sm _ _ hc)) ?_ ?_
    · rintro i x σ H1 H2 hi ⟨x2, x3, x4, x5, x6, rfl, e, sm⟩ ⟨T3, y, z, rfl, hT, rfl, hy, hz⟩
      have ey : y = .int (i : Nat) := (Option.some.inj hy).symm
      have ez : z = .str (cs.getD i default) := by
        have hz2 : (strsV cs)[i]? = some z := hz
        rw [getV hi] at hz2
        exact (Option.some.inj hz2).symm
      subst ey ez
      have sT := same_new (o := .tup [.int (i : Nat), .str (cs.getD i default)]) hT
      have e1 := sT _ _ e
      refine ⟨T3, _, rfl, SqT.of upd_same, rfl, _, _, rfl, _, _, rfl, rfl, ?_⟩
      refine ⟨_, rfl, d, rfl, .inl ⟨_, .inl e1⟩, _, rfl, _, DGet.k (k := Sum.inr (cs.getD i default)) e1, ?_⟩
      rw [gv]
      refine ⟨_, rfl, 1, i, rfl, rfl, 1, 1 + i, rfl, rfl, wide, by omega, _, _, rfl, rfl, ?_⟩
      refine ⟨_, rfl, _, rfl, d, _, rfl, DPut.k (k := Sum.inr (cs.getD i default)) e1 ?_, ?_⟩
      · rw [lenK]
        exact small1000 (by have := byStT_len cs i; omega)
      rw [kvsV_put]
      refine ⟨_, _, _, _, _, rfl, ?_, fun b o zb => ?_⟩
      · rw [upd_same]
        unfold byStT
        rw [range_fold]
        rfl
      · have nb : b ≠ d := ne_of_none zb hd
        rw [upd_ne nb]
        exact sT _ _ (sm _ _ zb)
    · rintro σ H1 ⟨x2, x3, x4, x5, x6, rfl, e, sm⟩
      rw [← bySt_eq] at e
      have lb : (bySt cs).length ≤ 1000 := by
        rw [bySt_eq]
        exact Nat.le_trans (byStT_len cs _) len
      dsimp only
      refine seq_go (asg_go ?_)
      intro g hg
      have sg0 := same_new (o := .dK []) hg
      refine name_go ?_
      dsimp only
      have e2 := sg0 _ _ e
      have ngd : g ≠ d := fun z => by
        rw [z, e] at hg
        cases hg
      refine seq_go ⟨d, .dK (kvsV (bySt cs)), e2, True.intro, fun od => ?_⟩
      refine ⟨_, rfl, d, od, _, rfl, upd_same, ?_⟩
      have keys : ∀ p ∈ bySt cs, p.1.cps.size ≤ 1000 := fun p hp => sz _ (byStT_keys cs _ (Nat.le_refl _) p (by rw [← bySt_eq]; exact hp))
      generalize hbs : bySt cs = bs at e e2 lb keys
      have far : ∀ {b : Addr} {o : HO}, H b = some o → b ≠ d ∧ b ≠ g := fun {b o} zb => ⟨ne_of_none zb hd, ne_of_none (sm _ _ zb) hg⟩
      have lenB : (kvsV bs).length = bs.length := lenK _
      refine for_it (n := bs.length) (by rw [← lenB]; exact walk_items) (fun i σ H' => ∃ x2 x3 x5 x6 : Option V, σ = [some (.ref c), some (.ref d), x2, x3, some (.ref g), x5, x6] ∧ H' d = some (.frz od (.dK (kvsV bs))) ∧ H' g = some (.dK (kvsV ((bs.take i).foldl (fun c p => spread c p.1 p.2) []))) ∧
        ((bs.take i).foldl (fun c p => spread c p.1 p.2) ([] : SN)).length ≤ i * 1000 ∧ ∀ b o, H b = some o → H' b = some o) ⟨_, _, _, _, rfl, upd_same, by rw [upd_ne ngd, upd_same]; rfl, Nat.zero_le _, fun b o zb => by rw [upd_ne (far zb).1]; exact sg0 _ _ (sm _ _ zb)⟩ (fun i σ H' _ h => by
          obtain ⟨_, _, _, _, _, z, _⟩ := h
          exact z) ?_ ?_
      · rintro i x σ H2 H3 hi ⟨x2, x3, x5, x6, rfl, ed, eg, lg, kp⟩ ⟨T3, y, z, rfl, hT, rfl, hy, hz⟩
        have hp : (kvsV bs)[i]? = some (Sum.inr bs[i].1, .int (bs[i].2 : Nat)) := by
          unfold kvsV
          rw [List.getElem?_map, List.getElem?_eq_getElem hi]
          rfl
        have ey : y = .str bs[i].1 := by
          have hy2 : (kvsV bs)[i]?.map (fun kv => kV kv.1) = some y := hy
          rw [hp] at hy2
          exact (Option.some.inj hy2).symm
        have ez : z = .int (bs[i].2 : Nat) := by
          have hz2 : (kvsV bs)[i]?.map Prod.snd = some z := hz
          rw [hp] at hz2
          exact (Option.some.inj hz2).symm
        subst ey ez
        have sT := same_new (o := .tup [.str bs[i].1, .int (bs[i].2 : Nat)]) hT
        generalize hc0 : (bs.take i).foldl (fun c p => spread c p.1 p.2) ([] : SN) = c0 at eg lg
        have step : (bs.take (i + 1)).foldl (fun c p => spread c p.1 p.2) ([] : SN) = spread c0 bs[i].1 bs[i].2 := by
          rw [fold_take (fun c p => spread c p.1 p.2) [] bs (List.getElem?_eq_getElem hi), hc0]
        have sb : bs[i].1.cps.size ≤ 1000 := keys _ (List.getElem_mem _)
        refine ⟨T3, _, rfl, SqT.of upd_same, rfl, _, _, rfl, _, _, rfl, rfl, ?_⟩
        refine ⟨_, rfl, _, rfl, ?_⟩
        refine for_it (n := bs[i].1.cps.size) walk_str (fun j σ H' => ∃ x2 x6 : Option V, σ = [some (.ref c), some (.ref d), x2, some (.str bs[i].1), some (.ref g), some (.int (bs[i].2 : Nat)), x6] ∧ H' d = some (.frz od (.dK (kvsV bs))) ∧
          H' g = some (.dK (kvsV ((bs[i].1.cps.toList.take j).foldl (fun c n => addN c ⟨#[n]⟩ bs[i].2) c0))) ∧ ((bs[i].1.cps.toList.take j).foldl (fun c n => addN c ⟨#[n]⟩ bs[i].2) c0).length ≤ i * 1000 + j ∧ ∀ b o, H b = some o → H' b = some o)
          ⟨_, _, rfl, sT _ _ ed, sT _ _ eg, by simpa using lg, fun b o zb => sT _ _ (kp b o zb)⟩ (fun _ _ _ _ _ => True.intro) ?_ ?_
        · rintro j x σ H4 H5 hj ⟨y2, y6, rfl, fd4, fg4, lg4, kp4⟩ ⟨rfl, ch, hch, rfl⟩
          have ngd2 : g ≠ d := ngd
          refine ⟨_, rfl, g, rfl, .inl ⟨_, .inl fg4⟩, _, rfl, _, DGet.k (k := Sum.inr ⟨#[ch]⟩) fg4, ?_⟩
          rw [gv]
          refine ⟨_, rfl, _, _, rfl, rfl, _, rfl, _, rfl, g, _, rfl, DPut.k (k := Sum.inr ⟨#[ch]⟩) fg4 ?_, ?_⟩
          · rw [lenK]
            have : i * 1000 ≤ 1000 * 1000 := Nat.mul_le_mul_right _ (by omega)
            rw [sizeLine_eq]
            omega
          rw [kvsV_put]
          refine ⟨_, _, rfl, ?_, ?_, ?_, fun b o zb => ?_⟩
          · rw [upd_ne ngd2.symm]
            exact fd4
          · rw [upd_same, spread_take c0 bs[i].1 bs[i].2 j ch hch]
            rfl
          · rw [spread_take c0 bs[i].1 bs[i].2 j ch hch]
            have := addN_length ((bs[i].1.cps.toList.take j).foldl (fun c n => addN c ⟨#[n]⟩ bs[i].2) c0) ⟨#[ch]⟩ bs[i].2
            omega
          · rw [upd_ne (far zb).2]
            exact kp4 b o zb
        · rintro σ H4 ⟨y2, y6, rfl, fd4, fg4, lg4, kp4⟩
          have tk : bs[i].1.cps.toList.take bs[i].1.cps.size = bs[i].1.cps.toList := List.take_of_length_le (by simp)
          rw [tk] at fg4 lg4
          have sp : bs[i].1.cps.toList.foldl (fun c n => addN c ⟨#[n]⟩ bs[i].2) c0 = spread c0 bs[i].1 bs[i].2 := rfl
          rw [sp] at fg4 lg4
          refine ⟨_, _, _, _, rfl, fd4, ?_, ?_, kp4⟩
          · rw [step]
            exact fg4
          · rw [step]
            omega
      · rintro σ H2 ⟨x2, x3, x5, x6, rfl, ed, eg, lg, kp⟩
        rw [List.take_of_length_le (Nat.le_refl _)] at eg
        refine ⟨ed, _, rfl, ?_⟩
        refine q g _ (fun b o zb => ?_) (sm.free hg) ?_
        · rw [upd_ne (far zb).1]
          exact kp b o zb
        · rw [upd_ne ngd, eg]
          unfold standsFor byCh
          rw [hbs]
end
end K14

set_option autoImplicit false
set_option maxErrors 4
namespace K14
open PySem PySem.Spec PyProof.Rows L2 Tl
theorem lk_nil {f : Str} : ([] : List (Str × V)).lookup f = none := rfl
section
variable {P : Program} {w : World} {K : PySem.W.Frag} {mg : Str → Option Value} {base : Heap} {NC : Addr}
theorem ok_net_init {f : Addr} {fd : FuncData} (F : FnP K "__init__" "Net.__init__" s_Net_init_ f fd) (T : NetC K NC) (M : Mk K NC f) (gM : mg "Net" = some (.ref NC)) (b : Binds K fd ["self", "chars", "follow", "exits"] [])
    (B : Can P w K mg base CX0 "places_by_char" ["chars"] 1 spPbc) : CanNet P w K mg base NC 2 := by
  obtain ⟨fB, fdB, GB, gB, kB, bB⟩ := B
  have nd := sc_Net_init_.nd
  refine ⟨f, fd, M, gM, b, F.ok sc_Net_init_ (fun vs H Q E h => ?_) (fun cdv A outer s H vs Q E hr h => ?_)⟩
  · obtain ⟨p, dx, c, f, n, rfl, _⟩ := h
    rfl
  · obtain ⟨p, dx, c, f, n, rfl, ok, hp, hc, hf, q⟩ := h
    refine ⟨_, PSs.nox (pss_cons (ps_fld (pv 0) (pv 1) rfl) (pss_cons (ps_fld (pv 0) (pv 2) rfl) (pss_cons (ps_fld (pv 0) (pv 3) rfl) (pss_one (ps_fld (pv 0) (pe_call GB (hr.mono (by decide)) (by rfl) gB kB bB .nil pass0 (pa_cons (pv 1) pa_nil)) rfl))))), ?_⟩
    have npc : p ≠ c := fun z => by rw [z, hc] at hp; cases hp
    have npf : p ≠ f := fun z => by rw [z, hf] at hp; cases hp
    have far : ∀ {b : Addr} {o u : HO}, H b = some o → b ≠ p → (upd H p u) b = some o := fun {b o u} z nb => by
      rw [upd_ne nb]
      exact z
    refine ⟨_, rfl, _, rfl, p, NC, dx, _, rfl, hp, T.cl, T.n1, (by show 0 < 1000; decide), ?_⟩
    refine ⟨_, rfl, _, rfl, p, NC, dx, _, rfl, upd_same, T.cl, T.n2, (by show 1 < 1000; decide), ?_⟩
    rw [upd_upd]
    refine ⟨_, rfl, _, rfl, p, NC, dx, _, rfl, upd_same, T.cl, T.n3, (by show 2 < 1000; decide), ?_⟩
    rw [upd_upd]
    obtain ⟨a1, a2, a3, a4, a5⟩ := ok
    refine ⟨_, rfl, c, n.chars, rfl, far hc npc.symm, a2, a5, fun d H' sm hd ed => ?_⟩
    have e1 := sm _ _ upd_same
    have ndp : d ≠ p := fun z => by rw [z, upd_same] at hd; cases hd
    refine ⟨_, rfl, p, NC, dx, _, rfl, e1, T.cl, T.n4, (by show 3 < 1000; decide), ?_⟩
    refine q _ (fun x o e nx => ?_) ⟨dx, d, by rw [upd_ne ndp] at hd; exact hd, ?_, ?_, ?_, ?_⟩
    · rw [upd_ne nx]
      exact sm _ _ (far e nx)
    · rw [upd_same]
      rfl
    · rw [upd_ne npc.symm]
      exact sm _ _ (far hc npc.symm)
    · rw [upd_ne npf.symm]
      exact sm _ _ (far hf npf.symm)
    · rw [upd_ne ndp]
      exact ed
end
end K14

set_option autoImplicit false
set_option maxErrors 4
/-! A dict of True's whose keys are nested tuples: what {k: True for ..} and tuple(d) make of it. -/
namespace Tl
open PySem PySem.Spec PyProof.Rows L2
mutual
/-- v is the key k, by the tracked tuples -/
inductive NkV (H : Hp) : NestedKey → V → Prop
  | non : NkV H .none .non
  | int (i : Int) : NkV H (.num i) (.int i)
  | str (x : Str) : NkV H (.text x) (.str x)
  | tup {a : Addr} {vs : List V} {ks : List NestedKey} : H a = some (.tup vs) → NkAll H ks vs → NkV H (.tup ks) (.ref a)
inductive NkAll (H : Hp) : List NestedKey → List V → Prop
  | nil : NkAll H [] []
  | cons {k : NestedKey} {v : V} {ks : List NestedKey} {vs : List V} : NkV H k v → NkAll H ks vs → NkAll H (k :: ks) (v :: vs)
end
section
variable {P : Program} {w : World} {H H' : Hp} {h : Heap}
mutual
theorem NkV.is (ok : HOk P w H h) : ∀ (k : NestedKey) (v : V) (u : Value), NkV H k v → RelV v u → NestedIs h k u
  | .none, _, _, x, r => by
    cases x
    cases r
    exact .none
  | .num i, _, _, x, r => by
    cases x
    obtain ⟨t, rfl⟩ := r
    exact .int i t
  | .text z, _, _, x, r => by
    cases x
    obtain ⟨t, rfl⟩ := r
    exact .text z t
  | .tup ks, _, _, x, r => by
    cases x with
    | tup e al =>
      cases r
      obtain ⟨_, its, rel, o, g, c, n, d⟩ := ok _ _ e
      exact .tup g c d (by simpa using NkAll.is ok ks _ its al rel)
theorem NkAll.is (ok : HOk P w H h) : ∀ (ks : List NestedKey) (vs : List V) (us : List Value), NkAll H ks vs → Vals vs us → NestedAll h ks us
  | [], _, _, x, r => by
    cases x
    cases r
    exact .nil
  | k :: ks, _, _, x, r => by
    cases x with
    | cons x1 x2 =>
      cases r with
      | cons r1 r2 => exact .cons (NkV.is ok k _ _ x1 r1) (NkAll.is ok ks _ _ x2 r2)
end
mutual
theorem NkV.same (s : Same H H') : ∀ (k : NestedKey) (v : V), NkV H k v → NkV H' k v
  | .none, _, x => by cases x; exact .non
  | .num i, _, x => by cases x; exact .int i
  | .text z, _, x => by cases x; exact .str z
  | .tup ks, _, x => by
    cases x with
    | tup e al => exact .tup (s _ _ e) (NkAll.same s ks _ al)
theorem NkAll.same (s : Same H H') : ∀ (ks : List NestedKey) (vs : List V), NkAll H ks vs → NkAll H' ks vs
  | [], _, x => by cases x; exact .nil
  | k :: ks, _, x => by
    cases x with
    | cons x1 x2 => exact .cons (NkV.same s k _ x1) (NkAll.same s ks _ x2)
end
end
abbrev Ks := List (NestedKey × Addr)
def rowsO (ks : Ks) : List (NestedKey × Addr × Value) := ks.map fun x => (x.1, x.2, .bool true)
/-- the dict at D: the keys in order, each with True -/
def ordO (P : Program) (w : World) (D : Addr) (ks : Ks) : HO := .ext fun h => ks.length ≤ sizeLine ∧ (D == sysModules) = false ∧ (ks.map (·.1)).Nodup ∧ ∃ o es ep, h.get? D = some o ∧ o.ExactDict ∧ o.data = .dict es ep ∧ es.toList = (rowsO ks).map (entryOfKey (nestedKind P w))
def putO (ks : Ks) (k : NestedKey) (a : Addr) : Ks := if k ∈ ks.map (·.1) then ks else ks ++ [(k, a)]
/-- the keys stand where they are said to stand -/
def KeysAt (H : Hp) (ks : Ks) : Prop := ∀ x ∈ ks, x.1.depth ≤ 8 ∧ NkV H x.1 (.ref x.2)
theorem KeysAt.same {H H' : Hp} {ks : Ks} (k : KeysAt H ks) (s : Same H H') : KeysAt H' ks := fun x hx => ⟨(k x hx).1, (k x hx).2.same s⟩
theorem KeysAt.put {H : Hp} {ks : Ks} {k : NestedKey} {a : Addr} (h : KeysAt H ks) (d : k.depth ≤ 8) (v : NkV H k (.ref a)) : KeysAt H (putO ks k a) := by
  unfold putO
  split
  · exact h
  · intro x hx
    rcases List.mem_append.mp hx with hx | hx
    · exact h x hx
    · rw [List.mem_singleton.mp hx]
      exact ⟨d, v⟩
theorem putO_nodup {ks : Ks} {k : NestedKey} {a : Addr} (h : (ks.map (·.1)).Nodup) : ((putO ks k a).map (·.1)).Nodup := by
  unfold putO
  split
  · exact h
  · rename_i n
    rw [List.map_append, List.nodup_append]
    refine ⟨h, by simp, fun x hx y hy e => ?_⟩
    simp only [List.map_cons, List.map_nil, List.mem_singleton] at hy
    subst hy e
    exact n hx
theorem putO_length (ks : Ks) (k : NestedKey) (a : Addr) : (putO ks k a).length ≤ ks.length + 1 := by
  unfold putO
  split <;> simp
theorem rowsO_put (ks : Ks) (k : NestedKey) (a : Addr) : storedH (rowsO ks) k a (.bool true) = rowsO (putO ks k a) := by
  have look : (atKey (rowsO ks) k).isSome = decide (k ∈ ks.map (·.1)) := by
    unfold rowsO
    induction ks with
    | nil => rfl
    | cons x r ih =>
      by_cases e : x.1 = k
      · simp [atKey, e]
      · have e2 : ¬ k = x.1 := fun z => e z.symm
        have m : decide (k ∈ (x :: r).map (·.1)) = decide (k ∈ r.map (·.1)) := by
          rw [decide_eq_decide, List.map_cons, List.mem_cons]
          exact ⟨fun z => z.resolve_left e2, .inr⟩
        rw [m, ← ih]
        simp [atKey, e]
  have keep : (rowsO ks).map (putAt k (.bool true)) = rowsO ks := by
    unfold rowsO
    rw [List.map_map]
    refine List.map_congr_left fun x _ => ?_
    by_cases e : x.1 = k <;> simp [putAt, e]
  unfold storedH putO
  rw [look]
  by_cases m : k ∈ ks.map (·.1)
  · rw [if_pos (decide_eq_true m), if_pos m, keep]
  · rw [if_neg (by simpa using m), if_neg m]
    unfold rowsO
    rw [List.map_append]
    rfl
section
variable {P : Program} {w : World} {H : Hp} {h : Heap} {D : Addr} {ks : Ks}
theorem ordO_ok (z : ks.length ≤ sizeLine) (nd : (D == sysModules) = false) (dis : (ks.map (·.1)).Nodup) (x : ∃ o es ep, h.get? D = some o ∧ o.ExactDict ∧ o.data = .dict es ep ∧ es.toList = (rowsO ks).map (entryOfKey (nestedKind P w))) : ObjOk P w H h D (ordO P w D ks) := by
  obtain ⟨o, es, ep, g, r⟩ := id x
  exact ⟨⟨z, nd, dis, x⟩, ⟨o, g⟩, fun h1 h2 y k => by
    obtain ⟨z, nd, dis, o, es, ep, g, r⟩ := y
    exact ⟨z, nd, dis, o, es, ep, k _ g, r⟩⟩
theorem ordO_new (hp : Heap) (hb : sysModules < hp.objs.size) : ObjOk P w H (hp.push { cls := .type "dict", data := .dict #[] }) hp.objs.size (ordO P w hp.objs.size []) :=
  ordO_ok (Nat.zero_le _) (beq_eq_false_iff_ne.mpr (Ne.symm (Nat.ne_of_lt hb))) List.nodup_nil ⟨_, #[], 0, Heap.get?_push_size _ rfl, ⟨rfl, rfl, rfl⟩, rfl, rfl⟩
theorem ordO_at (ok : HOk P w H h) (e : H D = some (ordO P w D ks)) : ks.length ≤ sizeLine ∧ (D == sysModules) = false ∧ (ks.map (·.1)).Nodup ∧ ∃ o es ep, h.get? D = some o ∧ o.ExactDict ∧ o.data = .dict es ep ∧ es.toList = (rowsO ks).map (entryOfKey (nestedKind P w)) := by
  have x : ObjOk P w H h D (ordO P w D ks) := ok D _ e
  exact x.1
theorem ordO_keyed (ok : HOk P w H h) (e : H D = some (ordO P w D ks)) (at_ : KeysAt H ks) : h.DictOfH (nestedKind P w) D (rowsO ks) := by
  obtain ⟨_, _, dis, o, es, ep, g, c, d, l⟩ := ordO_at ok e
  refine ⟨o, es, ep, g, c, d, l, fun x hx => ?_, by unfold rowsO; rw [List.map_map]; exact dis⟩
  obtain ⟨y, hy, rfl⟩ := List.mem_map.mp hx
  exact ⟨(at_ y hy).2.is ok _ _ _ rfl, (at_ y hy).1⟩
end
/-- d[k] = True by a comprehension -/
theorem put_ord {X : Cx} {pins : List (Addr × Obj)} {σ : L2.St} {H : Hp} {s : Shared} {E : Value → Shared → Prop} {D a : Addr} {ks : Ks} {k : NestedKey} {Q : Unit → Shared → Prop} (hu : X.A.units + 8 < cLine) (I : Inv X pins σ H s) (e : H D = some (ordO X.prog X.w D ks)) (at_ : KeysAt H ks)
    (small : ks.length < sizeLine) (dp : k.depth ≤ 8) (hk : NkV H k (.ref a)) (h : ∀ s', Inv X pins σ (upd H D (ordO X.prog X.w D (putO ks k a))) s' → Q () s') : wpAny (model X.prog X.w) X.A (dictSet D (.ref a) (.bool true)) Q E s := by
  obtain ⟨_, nd, dis, _⟩ := ordO_at I.hok e
  have len : (rowsO ks).length ≤ sizeLine := by
    unfold rowsO
    rw [List.length_map]
    exact Nat.le_of_lt small
  refine wpAny_dictSet_heap (knd := nestedKind X.prog X.w) (hsz := len) hu ⟨hk.is I.hok _ _ _ rfl, dp⟩ (ordO_keyed I.hok e at_) fun h' dd sb => h _ ?_
  rw [rowsO_put] at dd
  obtain ⟨o, es, ep, g, c, d, l, _, _⟩ := dd
  exact d_write I (by rw [e]; exact True.intro) sb ⟨o, g⟩ (ordO_ok (Nat.le_trans (putO_length ks k a) small) nd (putO_nodup dis) ⟨o, es, ep, g, c, d, l⟩)
end Tl

set_option autoImplicit false
set_option maxErrors 4
/-! {k: True for target in iter if ..}, k a tuple, nested. -/
namespace Tl
open PySem PySem.Spec PyProof.Rows L2
section
variable {X : Cx}
/-- one turn: the target is bound, the tests asked, the key and the True made, the key put -/
def ordTurn (P : Program) (w : World) (g : TG) (tt : TT) (tk tv : TE) (vs : List Nat) (σ : L2.St) (D : Addr) (Nx : Hp → Prop) (x : V) (H : Hp) : Prop := g x (wipe σ vs) H fun σ2 H2 => wipe σ2 vs = wipe σ vs ∧ tt σ2 H2 fun b H3 =>
  if b = true then tk σ2 H3 fun y H4 => tv σ2 H4 fun z H5 => ∃ (ks : Ks) (k : NestedKey) (a : Addr), y = .ref a ∧ z = .bl true ∧ H5 D = some (ordO P w D ks) ∧ ks.length < sizeLine ∧ k.depth ≤ 8 ∧ NkV H5 k (.ref a) ∧ KeysAt H5 ks ∧ Nx (upd H5 D (ordO P w D (putO ks k a))) else Nx H3
def tOrd (P : Program) (w : World) (wi : TI) (g : TG) (tt : TT) (tk tv : TE) (vs : List Nat) : TE := fun σ H Q => wi σ H fun J H1 => ∀ D, H1 D = none → ∃ W : Nat → Nat → Hp → Prop, (∃ m, W 0 m (upd H1 D (ordO P w D []))) ∧
  ∀ i m H2, W i m H2 → (J.stop i H2 ∧ Q (.ref D) H2) ∨ (J.go i H2 ∧ ∃ Nx : Hp → Prop, (∀ H3, Nx H3 → ∃ j, j < m ∧ W (i + 1) j H3) ∧ ∀ x H3, J.yld i H2 x H3 → ordTurn P w g tt tk tv vs σ D Nx x H3)
theorem ord_core {pins : List (Addr × Obj)} {s : Shared} {σ : L2.St} {H : Hp} {Q : VK} {kx vx tg iter : Expr} {ifs : List Expr} {scope : Scope} {own : List (Str × Nat)} {pos pos' : Pos} {wi : TI} {g : TG} {tt : TT} {tk tv : TE} {use : Option (Value → Sem Unit)} {Qf : Value → Shared → Prop}
    (calm : X.calm = true) (hu : X.A.units + 8 < cLine) (nd : X.N.Nodup) (I : Inv X pins σ H s) (it : PI X tg iter wi) (bo : BlkOk X.N X.env.scope scope own)
    (pg : ∀ (s : Shared) (H : Hp) (C : Addr) (cl : List (Str × Addr)) (fp : List Addr), PG (X.blk s H scope (compEnvC scope cl C X.env) fp) tg g) (pt : ∀ (s : Shared) (H : Hp) (C : Addr) (cl : List (Str × Addr)) (fp : List Addr), PTs (X.blk s H scope (compEnvC scope cl C X.env) fp) ifs tt)
    (pk : ∀ (s : Shared) (H : Hp) (C : Addr) (cl : List (Str × Addr)) (fp : List Addr), PE (X.blk s H scope (compEnvC scope cl C X.env) fp) kx tk)
    (pv : ∀ (s : Shared) (H : Hp) (C : Addr) (cl : List (Str × Addr)) (fp : List Addr), PE (X.blk s H scope (compEnvC scope cl C X.env) fp) vx tv) (fold : ∀ x, foldedSetIterable iter X.env x = pure x)
    (asked : tOrd X.prog X.w wi g tt tk tv (own.map (·.2)) σ H Q)
    (ends : ∀ D C s' m H', Inv X pins σ H' s' → Q (.ref D) H' → s'.heap.Ns C m → FpOk X pins H' C → compPost (model X.prog X.w) X.A X.xe use Qf (.ref D) C (.ok .next) s') :
    wpAny (model X.prog X.w) X.A (comprehension (.DictComp kx vx [⟨tg, iter, ifs, 0⟩] scope pos) scope X.env pos' newDict false (eval iter X.env) use) Qf X.xe s := by
  have clo : ∀ y ∈ scope.names, y.2 = .free → ∃ c, X.env.cells.lookup y.1 = some c := fun y hy e => (bo.free y hy e).elim (fun z => I.ok.has _ (.inl z)) fun z => I.ok.has _ (.inr z)
  refine wpAny_comprehension_free (use := use) rfl fold (closure_ok clo) bo.kind (fun y hy e => by rw [bo.uniq y hy, e]) (thn (it.run pins s σ H _ I asked) fun src sa ha => thn ha fun iv sb hb => ?_)
  obtain ⟨ita, fp, tn, J, Hb, rfl, Ib, T, at0, fpok, wish⟩ := hb
  refine wpAny_newObj_type (newEnv_comp ?_)
  -- the new dict
  generalize eD : sb.heap.objs.size = D
  obtain ⟨W, ⟨m0, w0⟩, turns⟩ := wish D (Ib.hok.fresh (Nat.le_of_eq eD))
  have lay : Inv X pins σ (upd Hb D (ordO X.prog X.w D [])) { sb with heap := sb.heap.push { cls := .type "dict", data := .dict #[] } } := by
    subst eD
    exact Ib.laid (t' := sb.toks) (fun b o e => Heap.get?_push_of_some _ e) (Nat.le_refl _) (ordO_new sb.heap Ib.big)
  have old : ∀ b ∈ fp, b < sb.heap.objs.size := fun b hb => by
    obtain ⟨o, e, _⟩ := T.obj _ _ at0 b hb
    exact Heap.lt_size e
  generalize eHc : upd Hb D (ordO X.prog X.w D []) = Hc at lay w0
  have fpc : ∀ b ∈ fp, FpOk X pins Hc b ∧ b < (sb.heap.push { cls := .type "dict", data := .dict #[] }).objs.size := fun b hb => by
    have lt := old b hb
    refine ⟨⟨?_, (fpok b hb).2⟩, Nat.lt_trans lt (by rw [Heap.size_push]; exact Nat.lt_succ_self _)⟩
    rw [← eHc, upd_ne (by rw [← eD]; exact Nat.ne_of_lt lt)]
    exact (fpok b hb).1
  have tnc : tn 0 (sb.heap.push { cls := .type "dict", data := .dict #[] }) := T.keep _ _ _ at0 fun b _ o e => Heap.get?_push_of_some _ e
  generalize esc : ({ sb with heap := sb.heap.push { cls := .type "dict", data := .dict #[] } } : Shared) = sc at lay
  have hsc : sb.heap.push { cls := .type "dict", data := .dict #[] } = sc.heap := by rw [← esc]
  rw [hsc] at fpc tnc
  have start := block_start lay bo nd fpc
  have kg := pg sc Hc sc.heap.objs.size (cellsFrom (sc.heap.objs.size + 1) scope.names (cloFrom X.env.cells scope.names [])) fp
  have kt := pt sc Hc sc.heap.objs.size (cellsFrom (sc.heap.objs.size + 1) scope.names (cloFrom X.env.cells scope.names [])) fp
  have kk := pk sc Hc sc.heap.objs.size (cellsFrom (sc.heap.objs.size + 1) scope.names (cloFrom X.env.cells scope.names [])) fp
  have kv := pv sc Hc sc.heap.objs.size (cellsFrom (sc.heap.objs.size + 1) scope.names (cloFrom X.env.cells scope.names [])) fp
  show codeAny _ _ (.compStart (.DictComp kx vx [⟨tg, iter, ifs, 0⟩] scope pos) 0 (.ref ita) (.ref D) (compEnvC scope (cellsFrom (sc.heap.objs.size + 1) scope.names (cloFrom X.env.cells scope.names [])) sc.heap.objs.size X.env)) (compPost (model X.prog X.w) X.A X.xe use Qf (.ref D) sc.heap.objs.size)
    { sc with heap := pushCells (sc.heap.push { cls := .type "dict", data := .dict #[] }) scope.names }
  generalize ece : compEnvC scope (cellsFrom (sc.heap.objs.size + 1) scope.names (cloFrom X.env.cells scope.names [])) sc.heap.objs.size X.env = ce at start kg kt kk kv ⊢
  have lc : ce.locals = sc.heap.objs.size := by rw [← ece]; rfl
  have tnd : tn 0 (pushCells (sc.heap.push { cls := .type "dict", data := .dict #[] }) scope.names) := T.keep _ _ _ tnc fun b _ o e => pushCells_keeps _ _ _ _ (Heap.get?_push_of_some _ e)
  generalize ese : ({ sc with heap := pushCells (sc.heap.push { cls := .type "dict", data := .dict #[] }) scope.names } : Shared) = se at start ⊢
  have tne : tn 0 se.heap := by rw [← ese]; exact tnd
  have still : ∀ {σ' : L2.St} {H' : Hp} {s' : Shared}, Inv (X.blk sc Hc scope ce fp) [] σ' H' s' → (∀ b ∈ fp, H' b = none) → ∀ b ∈ fp, FpOk (X.blk sc Hc scope ce fp) [] H' b := by
    intro σ' H' s' I' n b hb
    exact ⟨n b hb, (I'.ok.exf b hb).1, I'.ok.exfs b hb, .inl hb, fun x c e => (I'.ok.exf b hb).2 x c e, fun q hq => absurd (show q ∈ ([] : List (Addr × Obj)) ++ [] from hq) (by simp)⟩
  have loop : codeAny (model X.prog X.w) X.A (.compLoop (.DictComp kx vx [⟨tg, iter, ifs, 0⟩] scope pos) 0 (.ref ita) (.ref D) ce) (compPost (model X.prog X.w) X.A X.xe use Qf (.ref D) sc.heap.objs.size) se := by
    refine compLoop_anyD (fun m s' => ∃ i H', Inv (X.blk sc Hc scope ce fp) [] (wipe σ (own.map (·.2))) H' s' ∧ tn i s'.heap ∧ (∀ b ∈ fp, H' b = none) ∧ W i m H') ?_ m0 ⟨0, Hc, start, tne, fun b hb => (fpc b hb).1.1, w0⟩
    rintro m sf ⟨i, Hf, If, tf, nf, wf⟩
    rcases turns i m Hf wf with ⟨stop, fin⟩ | ⟨go, Nx, less, turn⟩
    · refine thnF (T.done (X.blk sc Hc scope ce fp) rfl rfl rfl calm i [] sf _ Hf (fun _ _ => False) If (still If nf) tf stop) fun r sg ⟨hr, Ig⟩ => ?_
      subst hr
      have back : Inv X pins σ Hf sg := lay.call' (ch := fp) Ig.os Ig.base Ig.hok Ig.bare fun b hb => by
        obtain ⟨⟨_, q1, _, q3, q4, q5⟩, _⟩ := fpc b hb
        exact ⟨q3, q1, q4, q5⟩
      have free : Hf sc.heap.objs.size = none := by rw [← lc]; exact Ig.free
      obtain ⟨mL, ns, _⟩ := Ig.loc
      exact ends D sc.heap.objs.size sg mL Hf back fin (by rw [← lc]; exact ns) (lay.fpOk (Nat.le_refl _) free)
    · refine thnF (T.item (X.blk sc Hc scope ce fp) rfl rfl rfl calm i [] sf _ Hf (fun _ _ => False) If (still If nf) tf go) fun r sg ⟨u, hr, hg⟩ => ?_
      subst hr
      refine thnF hg fun _ sh ⟨x, Hh, Ih, rx, yl, th, nh⟩ => ?_
      have Ip := Ih.pinned (still Ih nh) (T.obj _ _ th)
      refine thnF (kg.run _ sh _ Hh x u _ Ip rx (turn x Hh yl)) fun _ si ⟨σi, Hi, Ii, wi2, qi⟩ => ?_
      refine thnF (kt.run _ si σi Hi _ Ii qi) fun b sj ⟨Hj, Ij, qj⟩ => ?_
      have closeTurn : ∀ {s' : Shared} {H' : Hp}, Inv (X.blk sc Hc scope ce fp) ([] ++ pinsAt fp sh.heap) σi H' s' → Nx H' →
          ∃ j, j < m ∧ ∃ i' H2, Inv (X.blk sc Hc scope ce fp) [] (wipe σ (own.map (·.2))) H2 s' ∧ tn i' s'.heap ∧ (∀ b ∈ fp, H2 b = none) ∧ W i' j H2 := by
        intro s' H' I' nx
        obtain ⟨j, lt, wj⟩ := less H' nx
        have stay : ∀ b ∈ fp, ∀ o, sh.heap.get? b = some o → s'.heap.get? b = some o ∧ H' b = none := fun b hb o e => by
          have z := I'.pin (b, o) (List.mem_append_right _ (List.mem_append_right _ (mem_pinsAt hb e)))
          exact ⟨z.1, z.2.1⟩
        refine ⟨j, lt, i + 1, H', (I'.unpinned (pins := [])).weak (by rw [← wi2, wipe_length]) (fun n v e => ?_), T.keep _ _ _ th fun b hb o e => (stay b hb o e).1, fun b hb => ?_, wj⟩
        · rw [← wi2] at e
          exact (wipe_some e).1
        · obtain ⟨o, e, _⟩ := T.obj _ _ th b hb
          exact (stay b hb o e).2
      cases b with
      | false =>
        rw [if_neg Bool.false_ne_true] at qj ⊢
        exact closeTurn Ij qj
      | true =>
        rw [if_pos rfl] at qj ⊢
        refine thnF (kk.run _ sj σi Hj _ Ij qj) fun ku sk ⟨ky, Hk, Ik, rk, qk⟩ => ?_
        refine thnF (kv.run _ sk σi Hk _ Ik qk) fun vu sl ⟨vy, Hl, Il, rl, ks, k, a, eky, evy, eD2, small, dp, isk, kat, nx⟩ => ?_
        subst eky evy
        obtain rfl : ku = Value.ref a := rk
        obtain rfl : vu = Value.bool true := rl
        exact put_ord (X := X.blk sc Hc scope ce fp) hu Il eD2 kat small dp isk fun sm Im => closeTurn Im nx
  exact codeAny_compStart_dict loop (T.self X.A 0 _ _ _ tne loop)
theorem pe_ord {kx vx tg iter : Expr} {ifs : List Expr} {scope : Scope} {own : List (Str × Nat)} {pos : Pos} {wi : TI} {g : TG} {tt : TT} {tk tv : TE} (calm : X.calm = true) (hu : X.A.units + 8 < cLine) (nd : X.N.Nodup) (it : PI X tg iter wi) (bo : BlkOk X.N X.env.scope scope own)
    (pg : ∀ (s : Shared) (H : Hp) (C : Addr) (cl : List (Str × Addr)) (fp : List Addr), PG (X.blk s H scope (compEnvC scope cl C X.env) fp) tg g) (pt : ∀ (s : Shared) (H : Hp) (C : Addr) (cl : List (Str × Addr)) (fp : List Addr), PTs (X.blk s H scope (compEnvC scope cl C X.env) fp) ifs tt)
    (pk : ∀ (s : Shared) (H : Hp) (C : Addr) (cl : List (Str × Addr)) (fp : List Addr), PE (X.blk s H scope (compEnvC scope cl C X.env) fp) kx tk)
    (pv : ∀ (s : Shared) (H : Hp) (C : Addr) (cl : List (Str × Addr)) (fp : List Addr), PE (X.blk s H scope (compEnvC scope cl C X.env) fp) vx tv) (fold : ∀ x, foldedSetIterable iter X.env x = pure x := by intro _; rfl) :
    PE X (.DictComp kx vx [⟨tg, iter, ifs, 0⟩] scope pos) (tOrd X.prog X.w wi g tt tk tv (own.map (·.2))) := by
  refine ⟨fun pins s σ H Q I asked => ?_⟩
  rw [arm_eval_DictComp]
  refine ord_core calm hu nd I it bo pg pt pk pv fold asked fun D C s' m H' I' q ns f => ⟨m, ns, fun h2 sb2 => ?_⟩
  obtain ⟨p0, p1, p2, p3, p4, p5⟩ := f
  exact ⟨.ref D, H', I'.turned (t' := s'.toks) (fun b o ne e => (sb2.2 b ne).trans e) p0 p1 p3 p4 p5, rfl, q⟩
/-- y = {k: True for ..} -/
theorem ps_setOrd {i : Nat} {y : Str} {py spos : Pos} {kx vx tg iter : Expr} {ifs : List Expr} {scope : Scope} {own : List (Str × Nat)} {pos : Pos} {wi : TI} {g : TG} {tt : TT} {tk tv : TE} (calm : X.calm = true) (hu : X.A.units + 8 < cLine) (nd : X.N.Nodup) (hy : X.N[i]? = some y) (lo : X.env.scope.names.lookup y = some .local)
    (sw : swapsWith (.DictComp kx vx [⟨tg, iter, ifs, 0⟩] scope pos) (some (.Name y py)) spos.line X.env = pure true) (it : PI X tg iter wi) (bo : BlkOk X.N X.env.scope scope own)
    (pg : ∀ (s : Shared) (H : Hp) (C : Addr) (cl : List (Str × Addr)) (fp : List Addr), PG (X.blk s H scope (compEnvC scope cl C X.env) fp) tg g) (pt : ∀ (s : Shared) (H : Hp) (C : Addr) (cl : List (Str × Addr)) (fp : List Addr), PTs (X.blk s H scope (compEnvC scope cl C X.env) fp) ifs tt)
    (pk : ∀ (s : Shared) (H : Hp) (C : Addr) (cl : List (Str × Addr)) (fp : List Addr), PE (X.blk s H scope (compEnvC scope cl C X.env) fp) kx tk)
    (pv : ∀ (s : Shared) (H : Hp) (C : Addr) (cl : List (Str × Addr)) (fp : List Addr), PE (X.blk s H scope (compEnvC scope cl C X.env) fp) vx tv) (fold : ∀ x, foldedSetIterable iter X.env x = pure x := by intro _; rfl) :
    PS X (.Assign [.Name y py] (.DictComp kx vx [⟨tg, iter, ifs, 0⟩] scope pos) spos) (tAsg (tOrd X.prog X.w wi g tt tk tv (own.map (·.2))) (gName i)) := by
  refine ⟨fun pins s σ H D0 I h => ?_⟩
  rw [exec_Assign_Name_used _ _ _ _ sw]
  refine wpAny_bind (wpAny_standAt (wpAny_bind ?_))
  show wpAny _ X.A (comprehension (.DictComp kx vx [⟨tg, iter, ifs, 0⟩] scope pos) scope X.env (firstIterPos [⟨tg, iter, ifs, 0⟩] pos) newDict false (eval iter X.env) (some (assign (.Name y py) X.env)) >>= _) _ _ s
  have asked : tOrd X.prog X.w wi g tt tk tv (own.map (·.2)) σ H (fun x H1 => gName i x σ H1 D0.nx) := h
  refine wpAny_bind (thn (ord_core (Qf := fun _ s2 => SP X pins D0 .next s2) calm hu nd I it bo pg pt pk pv fold asked fun D C s1 m H1 I1 q ns f => ?_) fun _ s2 hq => wpAny_pure (wpAny_pure hq))
  show wpAny _ _ (assign (.Name y py) X.env (.ref D)) _ _ _
  refine wpAny_assign_Name (store_ok2 (v := V.ref D) I1 nd hy (.inl lo) rfl (fun s2 I2 side => ?_) (.inr lo))
  obtain ⟨a, sb, ha⟩ := side
  obtain ⟨p0, p1, p2, p3, p4, p5⟩ := f
  have ne : C ≠ a := by
    cases ha with
    | inl z =>
      rw [z]
      exact p1
    | inr z => exact fun e => p4 y a z e.symm
  exact ⟨m, ns.sameBut sb ne, fun h3 sb3 => ⟨_, H1, I2.turned (t' := s2.toks) (fun b o hb e => (sb3.2 b hb).trans e) p0 p1 p3 p4 p5, q⟩⟩
end
end Tl

set_option autoImplicit false
set_option maxErrors 4
/-! tuple(d), d a dict of nested tuple keys. -/
namespace Tl
open PySem PySem.Spec PyProof.Rows L2
section
open PySem.Calls PySem.W
variable {prog : Program} {w : World} {A : Around} {E : Value → Shared → Prop} {s : Shared} {r d : Addr} {n : Nat} {Pd : Nat → Value → Prop} {OK : Heap → Prop}
/-- tuple(x), x walked as KdlSrc says -/
theorem tuple_src {Q : Value → Shared → Prop} (S : PySem.W.KdlSrc prog w "dict" r d n Pd OK) (calm : A.handled = none) (ok : OK s.heap) (small : n ≤ sizeLine)
    (q : ∀ (hp : Heap) (tk : Nat) (acc : Array Value), (∀ b o, s.heap.get? b = some o → hp.get? b = some o) → ItemsOf Pd acc n → Q (.ref hp.objs.size) { s with heap := hp.push { cls := .type "tuple", data := .seq acc }, toks := tk }) :
    wpAny (model prog w) A (call (.type "tuple") [.ref r]) Q E s := by
  have is : s.TypeIs (.ref r) "dict" := S.type s ok
  have calm2 : A.in1.in1.handled = none := calm
  refine callType_codes (Q₁ := fun u s2 => s2.TypeIs u "tuple" ∧ Q u s2) PySem.F.called_tuple (PySem.F.typeCall_tuple_1 _) PySem.F.entry_object_init (codeAny_of_tree ?_) fun u s2 hu =>
    ⟨hu.1, PySem.F.args_object_init_2 u _, object_init_meets PySem.F.called_tuple.init.lookup PySem.F.called_tuple.made (by decide) prog w A.in1 _ s2 ⟨hu.1, rfl, hu.2⟩⟩
  show wpAny _ _ (checkBuiltinCall "tuple.__new__" _ >>= fun _ => again _) _ _ s
  refine wpAny_bind (wpAny_of_eq (PySem.F.newCall_tuple_1 _) (wpAny_pure ⟨plainId_quiet PySem.F.plain_tuple_new _, codeAny_builtin PySem.F.entry_tuple_new ?_⟩))
  rw [Around.under_plainId PySem.F.plain_tuple_new _]
  have f1 := sub_tuple_self
  have f2 := init_tuple_lookup
  have f3 := madeHere_tuple
  wp_walk using wpAny_typeOf is, kdu_collect (A := A.in1.in1) S calm2 ok small
  intro hp tk acc keep all
  show wpAny _ _ (Builtin.Tuple.tupleExact acc.toList.toArray >>= ret) _ _ _
  rw [Array.toArray_toList]
  unfold Builtin.Tuple.tupleExact
  refine wpAny_bind (wpAny_newObj_type (wpAny_pure ⟨⟨_, Heap.get?_push_size _ rfl, rfl⟩, q hp tk acc keep all⟩) ?_)
  show acc.size ≤ sizeLine
  rw [all.1]
  exact small
end
theorem vals_addrs : ∀ bs : List Addr, Vals (bs.map V.ref) (bs.map Value.ref)
  | [] => .nil
  | _ :: bs => .cons rfl (vals_addrs bs)
theorem call_tupOrd {X : Cx} (calm : X.calm = true) : CallR X (.type "tuple") (fun xs H Q => ∃ (D : Addr) (ks : Ks), xs = [.ref D] ∧ H D = some (ordO X.prog X.w D ks) ∧ ∀ p, H p = none → Q (.ref p) (upd H p (.tup ((ks.map (·.2)).map V.ref)))) := by
  intro pins s σ H xs us Q I r h
  obtain ⟨D, ks, rfl, e, q⟩ := h
  obtain ⟨u, rfl, rx⟩ := r.one
  cases rx
  obtain ⟨z, ns, _, o, es, ep, g, ex, dt, l⟩ := ordO_at I.hok e
  have raw : s.heap.DictRaw D es ep := ⟨o, g, ex, dt⟩
  have len : es.size = ks.length := by
    have y := congrArg List.length l
    unfold rowsO at y
    simpa using y
  refine tuple_src (PySem.KdlSrc.rawDict ns) (I.ok.hd calm) raw (by rw [len]; exact z) fun hp tk acc keep all => ?_
  have ea : acc.toList = (ks.map (·.2)).map Value.ref := by
    apply List.ext_getElem?
    intro j
    have alen : acc.toList.length = ks.length := by rw [Array.length_toList, all.1, len]
    rw [List.map_map, List.getElem?_map]
    cases hj : acc.toList[j]? with
    | none =>
      have h1 := List.getElem?_eq_none_iff.mp hj
      rw [List.getElem?_eq_none (by omega)]
      rfl
    | some v =>
      obtain ⟨hi, rfl⟩ := all.2 j v (by rw [← Array.getElem?_toList]; exact hj)
      have hk : j < ks.length := by omega
      have e1 : es.toList[j]? = some es[j] := by rw [Array.getElem?_toList, Array.getElem?_eq_getElem hi]
      rw [l] at e1
      unfold rowsO at e1
      rw [List.map_map, List.getElem?_map, List.getElem?_eq_getElem hk] at e1
      have e2 := Option.some.inj e1
      rw [List.getElem?_eq_getElem hk, ← e2]
      rfl
  have rv : Vals ((ks.map (·.2)).map V.ref) acc.toList := by rw [ea]; exact vals_addrs _
  have J : Inv X pins σ H { s with heap := hp, toks := tk } := I.kept (t' := tk) keep
  refine ⟨.ref hp.objs.size, _, J.laid (t' := tk) (o := .tup ((ks.map (·.2)).map V.ref)) (fun b o e => Heap.get?_push_of_some _ e) (Nat.le_refl _) ⟨by rw [List.length_map, List.length_map]; exact z, acc.toList, rv, ?_⟩, rfl, q _ (J.hok.fresh (Nat.le_refl _))⟩
  rw [Array.toArray_toList]
  exact IsTup.new _ _
theorem ord_it {P : Program} {w : World} {J : It} {n : Nat} {G : Hp → Prop} {Y : Nat → Hp → V → Hp → Prop} (wk : Walk J n G Y) {g : TG} {tt : TT} {tk tv : TE} {vs : List Nat} {σ : L2.St} {H1 : Hp} {D : Addr} {Qd : Hp → Prop} (Pv : Nat → Hp → Prop) (h0 : Pv 0 (upd H1 D (ordO P w D []))) (hG : ∀ i H, i ≤ n → Pv i H → G H)
    (hs : ∀ i x H H', i < n → Pv i H → Y i H x H' → ordTurn P w g tt tk tv vs σ D (Pv (i + 1)) x H') (hd : ∀ H, Pv n H → Qd H) :
    ∃ W : Nat → Nat → Hp → Prop, (∃ m, W 0 m (upd H1 D (ordO P w D []))) ∧ ∀ i m H, W i m H → (J.stop i H ∧ Qd H) ∨ (J.go i H ∧ ∃ Nx : Hp → Prop, (∀ H3, Nx H3 → ∃ j, j < m ∧ W (i + 1) j H3) ∧ ∀ x H3, J.yld i H x H3 → ordTurn P w g tt tk tv vs σ D Nx x H3) := by
  refine ⟨fun i m H => m = n - i ∧ i ≤ n ∧ Pv i H, ⟨n, rfl, Nat.zero_le _, h0⟩, fun i m H z => ?_⟩
  obtain ⟨rfl, hi, p⟩ := z
  rcases Nat.lt_or_ge i n with lt | ge
  · exact .inr ⟨wk.goes i H lt (hG i H hi p), Pv (i + 1), fun H' p' => ⟨n - (i + 1), by omega, rfl, lt, p'⟩, fun x H' y => hs i x H H' lt p (wk.yields i H x H' lt (hG i H hi p) y)⟩
  · obtain rfl : i = n := Nat.le_antisymm hi ge
    exact .inl ⟨wk.stops H (hG i H hi p), hd H p⟩
end Tl

set_option autoImplicit false
set_option maxErrors 4
/-! [e for x in xs for y in ys] by walks. -/
namespace Tl
open PySem PySem.Spec PyProof.Rows L2
section
variable {J : It} {n : Nat} {G : Hp → Prop} {Y : Nat → Hp → V → Hp → Prop}
/-- the inner one: its turns go on from the heap that it finds -/
theorem in_it (w : Walk J n G Y) {g : TG} {tt : TT} {te : TE} {vs : List Nat} {σ : L2.St} {H0 : Hp} {D : Addr} {Nx : Hp → Prop} (Pv : Nat → Hp → Prop) (h0 : Pv 0 H0) (hG : ∀ j H, j ≤ n → Pv j H → G H)
    (hs : ∀ j x H H', j < n → Pv j H → Y j H x H' → g x (wipe σ vs) H' fun σ3 H5 => wipe σ3 vs = wipe σ vs ∧ tt σ3 H5 fun b H6 =>
      if b = true then te σ3 H6 fun y H7 => ∃ acc, H7 D = some (.lst acc) ∧ acc.length < sizeLine ∧ Pv (j + 1) (upd H7 D (.lst (acc ++ [y]))) else Pv (j + 1) H6) (hd : ∀ H, Pv n H → Nx H) :
    ∃ W1 : Nat → Nat → Hp → Prop, (∃ m, W1 0 m H0) ∧ ∀ j k H, W1 j k H → (J.stop j H ∧ Nx H) ∨ (J.go j H ∧ ∃ Nx1 : Hp → Prop, (∀ H', Nx1 H' → ∃ k', k' < k ∧ W1 (j + 1) k' H') ∧ ∀ x H', J.yld j H x H' → g x (wipe σ vs) H' fun σ3 H5 => wipe σ3 vs = wipe σ vs ∧ tt σ3 H5 fun b H6 =>
        if b = true then te σ3 H6 fun y H7 => ∃ acc, H7 D = some (.lst acc) ∧ acc.length < sizeLine ∧ Nx1 (upd H7 D (.lst (acc ++ [y]))) else Nx1 H6) := by
  refine ⟨fun j k H => k = n - j ∧ j ≤ n ∧ Pv j H, ⟨n, rfl, Nat.zero_le _, h0⟩, fun j k H z => ?_⟩
  obtain ⟨rfl, hj, p⟩ := z
  rcases Nat.lt_or_ge j n with lt | ge
  · exact .inr ⟨w.goes j H lt (hG j H hj p), Pv (j + 1), fun H' p' => ⟨n - (j + 1), by omega, rfl, lt, p'⟩, fun x H' y => hs j x H H' lt p (w.yields j H x H' lt (hG j H hj p) y)⟩
  · obtain rfl : j = n := Nat.le_antisymm hj ge
    exact .inl ⟨w.stops H (hG j H hj p), hd H p⟩
/-- the outer one -/
theorem out_it (w : Walk J n G Y) {g : TG} {tt : TT} {wi1 : TI} {g1 : TG} {tt1 : TT} {te : TE} {vs vs1 : List Nat} {σ : L2.St} {H1 : Hp} {D : Addr} {Qd : Hp → Prop} (Pv : Nat → Hp → Prop) (h0 : Pv 0 (upd H1 D (.lst []))) (hG : ∀ i H, i ≤ n → Pv i H → G H)
    (hs : ∀ i x H H', i < n → Pv i H → Y i H x H' → g x (wipe σ vs) H' fun σ2 H2 => wipe σ2 vs = wipe σ vs ∧ tt σ2 H2 fun b H3 =>
      if b = true then wi1 σ2 H3 fun J1 H4 => ∃ W1 : Nat → Nat → Hp → Prop, (∃ m, W1 0 m H4) ∧ ∀ j k H, W1 j k H →
        (J1.stop j H ∧ Pv (i + 1) H) ∨ (J1.go j H ∧ ∃ Nx1 : Hp → Prop, (∀ H', Nx1 H' → ∃ k', k' < k ∧ W1 (j + 1) k' H') ∧ ∀ x H', J1.yld j H x H' → g1 x (wipe σ2 vs1) H' fun σ3 H5 => wipe σ3 vs1 = wipe σ2 vs1 ∧ tt1 σ3 H5 fun b H6 =>
          if b = true then te σ3 H6 fun y H7 => ∃ acc, H7 D = some (.lst acc) ∧ acc.length < sizeLine ∧ Nx1 (upd H7 D (.lst (acc ++ [y]))) else Nx1 H6)
      else Pv (i + 1) H3) (hd : ∀ H, Pv n H → Qd H) :
    ∃ W : Nat → Nat → Hp → Prop, (∃ m, W 0 m (upd H1 D (.lst []))) ∧ ∀ i m H, W i m H →
      (J.stop i H ∧ Qd H) ∨ (J.go i H ∧ ∃ Nx : Hp → Prop, (∀ H', Nx H' → ∃ m', m' < m ∧ W (i + 1) m' H') ∧ ∀ x H', J.yld i H x H' → g x (wipe σ vs) H' fun σ2 H2 => wipe σ2 vs = wipe σ vs ∧ tt σ2 H2 fun b H3 =>
        if b = true then wi1 σ2 H3 fun J1 H4 => ∃ W1 : Nat → Nat → Hp → Prop, (∃ m, W1 0 m H4) ∧ ∀ j k H, W1 j k H →
          (J1.stop j H ∧ Nx H) ∨ (J1.go j H ∧ ∃ Nx1 : Hp → Prop, (∀ H', Nx1 H' → ∃ k', k' < k ∧ W1 (j + 1) k' H') ∧ ∀ x H', J1.yld j H x H' → g1 x (wipe σ2 vs1) H' fun σ3 H5 => wipe σ3 vs1 = wipe σ2 vs1 ∧ tt1 σ3 H5 fun b H6 =>
            if b = true then te σ3 H6 fun y H7 => ∃ acc, H7 D = some (.lst acc) ∧ acc.length < sizeLine ∧ Nx1 (upd H7 D (.lst (acc ++ [y]))) else Nx1 H6)
        else Nx H3) := by
  refine ⟨fun i m H => m = n - i ∧ i ≤ n ∧ Pv i H, ⟨n, rfl, Nat.zero_le _, h0⟩, fun i m H z => ?_⟩
  obtain ⟨rfl, hi, p⟩ := z
  rcases Nat.lt_or_ge i n with lt | ge
  · exact .inr ⟨w.goes i H lt (hG i H hi p), Pv (i + 1), fun H' p' => ⟨n - (i + 1), by omega, rfl, lt, p'⟩, fun x H' y => hs i x H H' lt p (w.yields i H x H' lt (hG i H hi p) y)⟩
  · obtain rfl : i = n := Nat.le_antisymm hi ge
    exact .inl ⟨w.stops H (hG i H hi p), hd H p⟩
end
end Tl

set_option autoImplicit false
set_option maxErrors 4
namespace K14
open PySem PySem.Spec PyProof.Rows L2 Tl
/-! ### alternatives: rows of runs -/
abbrev RunL := Str × Nat × Option Nat
abbrev RowL := List RunL
def mostK (m : Option Nat) : NestedKey := m.elim .none fun n => .num (n : Nat)
def runK (r : RunL) : NestedKey := .tup [.text r.1, .num (r.2.1 : Nat), mostK r.2.2]
def rowK (r : RowL) : NestedKey := .tup (r.map runK)
theorem mostK_inj {a b : Option Nat} (h : mostK a = mostK b) : a = b := by
  cases a with
  | none =>
    cases b with
    | none => rfl
    | some n => cases h
  | some n =>
    cases b with
    | none => cases h
    | some k =>
      injection h with h
      rw [Int.ofNat.inj h]
theorem runK_inj {a b : RunL} (h : runK a = runK b) : a = b := by
  unfold runK at h
  injection h with h
  injection h with h1 h
  injection h with h2 h
  injection h with h3 _
  injection h1 with h1
  injection h2 with h2
  obtain ⟨a1, a2, a3⟩ := a
  obtain ⟨b1, b2, b3⟩ := b
  dsimp only at h1 h2 h3
  rw [h1, Int.ofNat.inj h2, mostK_inj h3]
theorem map_runK_inj : ∀ {a b : RowL}, a.map runK = b.map runK → a = b
  | [], [], _ => rfl
  | [], _ :: _, h => by cases h
  | _ :: _, [], h => by cases h
  | x :: a, y :: b, h => by
    injection h with h1 h2
    rw [runK_inj h1, map_runK_inj h2]
theorem rowK_inj {a b : RowL} (h : rowK a = rowK b) : a = b := by
  unfold rowK at h
  injection h with h
  exact map_runK_inj h
theorem runK_depth (r : RunL) : (runK r).depth = 1 := by
  obtain ⟨s, l, m⟩ := r
  cases m <;> rfl
theorem rowK_depth (r : RowL) : (rowK r).depth ≤ 2 := by
  have e : ∀ r : RowL, NestedKey.depthAll (r.map runK) ≤ 1 := by
    intro r
    induction r with
    | nil => exact Nat.zero_le _
    | cons x r ih =>
      rw [List.map_cons, NestedKey.depthAll, runK_depth]
      omega
  unfold rowK
  rw [NestedKey.depth]
  have := e r
  omega
/-- alternatives, each where it stands -/
abbrev Rws := List (RowL × Addr)
def rowsV (rs : Rws) : List V := rs.map fun x => V.ref x.2
def RowsAt (H : Hp) (rs : Rws) : Prop := ∀ x ∈ rs, NkV H (rowK x.1) (.ref x.2)
theorem RowsAt.same {H H' : Hp} {rs : Rws} (h : RowsAt H rs) (s : Same H H') : RowsAt H' rs := fun x hx => (h x hx).same s
def putR (rs : Rws) (x : RowL × Addr) : Rws := if x.1 ∈ rs.map (·.1) then rs else rs ++ [x]
def onceR (rs : Rws) : Rws := rs.foldl putR []
def keysR (rs : Rws) : Ks := rs.map fun x => (rowK x.1, x.2)
theorem keysR_put (rs : Rws) (x : RowL × Addr) : putO (keysR rs) (rowK x.1) x.2 = keysR (putR rs x) := by
  have e : (rowK x.1 ∈ (keysR rs).map (·.1)) ↔ x.1 ∈ rs.map (·.1) := by
    unfold keysR
    rw [List.map_map, List.mem_map, List.mem_map]
    constructor
    · rintro ⟨y, hy, h⟩
      exact ⟨y, hy, rowK_inj h⟩
    · rintro ⟨y, hy, h⟩
      exact ⟨y, hy, congrArg rowK h⟩
  unfold putO putR
  by_cases m : x.1 ∈ rs.map (·.1)
  · rw [if_pos (e.mpr m), if_pos m]
  · rw [if_neg (fun z => m (e.mp z)), if_neg m]
    unfold keysR
    rw [List.map_append]
    rfl
theorem putR_length (rs : Rws) (x : RowL × Addr) : (putR rs x).length ≤ rs.length + 1 := by
  unfold putR
  split <;> simp
theorem onceR_take_len (rs : Rws) : ∀ i, ((rs.take i).foldl putR []).length ≤ i := by
  intro i
  induction i with
  | zero => exact Nat.le_refl _
  | succ i ih =>
    by_cases h : i < rs.length
    · rw [fold_take putR [] rs (List.getElem?_eq_getElem h)]
      have := putR_length ((rs.take i).foldl putR []) rs[i]
      omega
    · rw [List.take_of_length_le (by omega)]
      rw [List.take_of_length_le (by omega)] at ih
      omega
theorem putR_sub {rs : Rws} {x y : RowL × Addr} (h : y ∈ putR rs x) : y ∈ rs ∨ y = x := by
  unfold putR at h
  split at h
  · exact .inl h
  · exact (List.mem_append.mp h).imp id List.mem_singleton.mp
theorem onceR_sub {rs : Rws} : ∀ y ∈ onceR rs, y ∈ rs := by
  have key : ∀ (xs acc : Rws), ∀ y ∈ xs.foldl putR acc, y ∈ acc ∨ y ∈ xs := by
    intro xs
    induction xs with
    | nil => exact fun acc y h => .inl h
    | cons x xs ih =>
      intro acc y h
      rcases ih _ y h with h | h
      · rcases putR_sub h with h | h
        · exact .inl h
        · exact .inr (by rw [h]; exact List.mem_cons_self)
      · exact .inr (List.mem_cons_of_mem _ h)
  intro y h
  exact (key rs [] y h).elim (fun z => by cases z) id
section
variable {P : Program} {w : World} {K : PySem.W.Frag} {mg : Str → Option Value} {base : Heap}
def spWr : Sp := fun vs H Q _ => ∃ (l : Addr) (rs : Rws), vs = [.ref l] ∧ (H l = some (.lst (rowsV rs)) ∨ H l = some (.tup (rowsV rs))) ∧ RowsAt H rs ∧ rs.length ≤ 1000 ∧ ∀ t H', Same H H' → H t = none → H' t = some (.tup (rowsV (onceR rs))) → Q (.ref t) H'
set_option maxHeartbeats 20000000 in
theorem ok_without {f : Addr} {fd : FuncData} (F : FnP K "without_repeats" "without_repeats" s_without_repeats f fd) (N : Nms mg) : FnOk P w K mg base CX0 1 f fd ["rows"] spWr := by
  have nd := sc_without_repeats.nd
  refine F.ok sc_without_repeats (fun vs H Q E h => ?_) (fun cdv A outer s H vs Q E hr h => ?_)
  · obtain ⟨l, rs, rfl, _⟩ := h
    rfl
  · obtain ⟨l, rs, rfl, hl, at_, len, q⟩ := h
    have hu : (A.deeper (envOfC "without_repeats" (defScope s_without_repeats) s.heap.objs.size f cdv)).units + 8 < cLine := by have := hr.un; omega
    refine ⟨_, PSs.nox (pss_cons (ps_setOrd (i := 2) (own := [("row", 1)]) (g := gName 1) (tt := tYes) rfl hu nd rfl rfl rfl (pi_seq (pv 0)) (blkOk_by (N := ["rows", "row", "kept"]) (sc := defScope s_without_repeats) (by decide +kernel))
        (fun _ _ _ _ _ => pg_name (i := 1) nd rfl (Or.inl rfl)) (fun _ _ _ _ _ => pts_nil) (fun _ _ _ _ _ => pv 1) (fun _ _ _ _ _ => pe_bl))
      (pss_one (ps_ret (pe_callTy (call_tupOrd rfl) (by rfl) N.tuple (by decide +kernel) (pa_cons (pv 2) pa_nil))))), ?_⟩
    have lenV : (rowsV rs).length = rs.length := List.length_map _
    rcases hl with hl | hl
    · refine ⟨_, rfl, l, rfl, .inl ⟨⟨_, SqL.of hl⟩, fun D hD => ?_⟩⟩
      have nDl : l ≠ D := ne_of_none hl hD
      refine ord_it (n := rs.length) (by rw [← lenV]; exact walk_list) (fun i H' => H' D = some (ordO P w D (keysR ((rs.take i).foldl putR []))) ∧ ∀ b o, H b = some o → H' b = some o) ⟨upd_same, fun b o z => by rw [upd_ne (ne_of_none z hD)]; exact z⟩ (fun i H' _ h => SqL.of (h.2 _ _ hl)) ?_ ?_
      · rintro i x _ H2 hi ⟨e, kp⟩ ⟨rfl, hx⟩
        have hx2 : (rowsV rs)[i]? = some (.ref rs[i].2) := by
          unfold rowsV
          rw [List.getElem?_map, List.getElem?_eq_getElem hi]
          rfl
        have ex : x = .ref rs[i].2 := by
          rw [hx2] at hx
          exact (Option.some.inj hx).symm
        subst ex
        refine ⟨rfl, yes_keep ?_⟩
        have low := onceR_take_len rs i
        have same2 : Same H H2 := kp
        have kat : KeysAt H2 (keysR ((rs.take i).foldl putR [])) := fun y hy => by
          unfold keysR at hy
          obtain ⟨z, hz, rfl⟩ := List.mem_map.mp hy
          have zin : z ∈ rs := List.mem_of_mem_take (onceR_sub z hz)
          exact ⟨Nat.le_trans (rowK_depth _) (by decide), (at_ z zin).same same2⟩
        refine ⟨_, rfl, keysR ((rs.take i).foldl putR []), rowK rs[i].1, rs[i].2, rfl, rfl, e, ?_, Nat.le_trans (rowK_depth _) (by decide), (at_ _ (List.getElem_mem hi)).same same2, kat, ?_⟩
        · unfold keysR
          rw [List.length_map]
          exact small1000 (by omega)
        · rw [keysR_put, ← fold_take putR [] rs (List.getElem?_eq_getElem hi)]
          exact ⟨upd_same, fun b o z => by rw [upd_ne (ne_of_none z hD)]; exact kp b o z⟩
      · rintro H2 ⟨e, kp⟩
        rw [List.take_of_length_le (Nat.le_refl _)] at e
        refine name_go ?_
        dsimp only
        refine ⟨_, rfl, D, _, rfl, e, fun t ht => ?_⟩
        have same2 : Same H H2 := kp
        refine q t _ (same2.trans (same_new ht)) (same2.free ht) ?_
        rw [upd_same]
        unfold keysR rowsV onceR
        rw [List.map_map, List.map_map]
        rfl
    · refine ⟨_, rfl, l, rfl, .inr ⟨⟨_, SqT.of hl⟩, fun D hD => ?_⟩⟩
      have nDl : l ≠ D := ne_of_none hl hD
      refine ord_it (n := rs.length) (by rw [← lenV]; exact walk_tup) (fun i H' => H' D = some (ordO P w D (keysR ((rs.take i).foldl putR []))) ∧ ∀ b o, H b = some o → H' b = some o) ⟨upd_same, fun b o z => by rw [upd_ne (ne_of_none z hD)]; exact z⟩ (fun i H' _ h => SqT.of (h.2 _ _ hl)) ?_ ?_
      · rintro i x _ H2 hi ⟨e, kp⟩ ⟨rfl, hx⟩
        have hx2 : (rowsV rs)[i]? = some (.ref rs[i].2) := by
          unfold rowsV
          rw [List.getElem?_map, List.getElem?_eq_getElem hi]
          rfl
        have ex : x = .ref rs[i].2 := by
          rw [hx2] at hx
          exact (Option.some.inj hx).symm
        subst ex
        refine ⟨rfl, yes_keep ?_⟩
        have low := onceR_take_len rs i
        have same2 : Same H H2 := kp
        have kat : KeysAt H2 (keysR ((rs.take i).foldl putR [])) := fun y hy => by
          unfold keysR at hy
          obtain ⟨z, hz, rfl⟩ := List.mem_map.mp hy
          have zin : z ∈ rs := List.mem_of_mem_take (onceR_sub z hz)
          exact ⟨Nat.le_trans (rowK_depth _) (by decide), (at_ z zin).same same2⟩
        refine ⟨_, rfl, keysR ((rs.take i).foldl putR []), rowK rs[i].1, rs[i].2, rfl, rfl, e, ?_, Nat.le_trans (rowK_depth _) (by decide), (at_ _ (List.getElem_mem hi)).same same2, kat, ?_⟩
        · unfold keysR
          rw [List.length_map]
          exact small1000 (by omega)
        · rw [keysR_put, ← fold_take putR [] rs (List.getElem?_eq_getElem hi)]
          exact ⟨upd_same, fun b o z => by rw [upd_ne (ne_of_none z hD)]; exact kp b o z⟩
      · rintro H2 ⟨e, kp⟩
        rw [List.take_of_length_le (Nat.le_refl _)] at e
        refine name_go ?_
        dsimp only
        refine ⟨_, rfl, D, _, rfl, e, fun t ht => ?_⟩
        have same2 : Same H H2 := kp
        refine q t _ (same2.trans (same_new ht)) (same2.free ht) ?_
        rw [upd_same]
        unfold keysR rowsV onceR
        rw [List.map_map, List.map_map]
        rfl
end
end K14

set_option autoImplicit false
set_option maxErrors 4
namespace K14
open PySem PySem.Spec PyProof.Rows L2 Tl
def RunAt (H : Hp) (b : Addr) (r : RunL) : Prop := H b = some (.tup [.str r.1, .int (r.2.1 : Nat), mostV r.2.2])
theorem mostK_v {H : Hp} {m : Option Nat} {v : V} (h : NkV H (mostK m) v) : v = mostV m := by
  cases m with
  | none =>
    cases h
    rfl
  | some n =>
    cases h
    rfl
theorem mostK_is {H : Hp} (m : Option Nat) : NkV H (mostK m) (mostV m) := by
  cases m with
  | none => exact .non
  | some n => exact .int _
theorem run_at {H : Hp} {r : RunL} {v : V} (h : NkV H (runK r) v) : ∃ b, v = .ref b ∧ RunAt H b r := by
  unfold runK at h
  cases h with
  | tup e al =>
    cases al with
    | cons x1 al =>
      cases al with
      | cons x2 al =>
        cases al with
        | cons x3 al =>
          cases al
          cases x1
          cases x2
          have z := mostK_v x3
          subst z
          exact ⟨_, rfl, e⟩
theorem run_is {H : Hp} {b : Addr} {r : RunL} (h : RunAt H b r) : NkV H (runK r) (.ref b) := .tup h (.cons (.str _) (.cons (.int _) (.cons (mostK_is _) .nil)))
/-- the runs of an alternative, each where it stands -/
abbrev Rns := List (RunL × Addr)
def runsV (bs : Rns) : List V := bs.map fun x => V.ref x.2
theorem row_at {H : Hp} {r : RowL} {a : Addr} (h : NkV H (rowK r) (.ref a)) : ∃ bs : Rns, bs.map (·.1) = r ∧ H a = some (.tup (runsV bs)) ∧ ∀ x ∈ bs, RunAt H x.2 x.1 := by
  have key : ∀ (r : RowL) (vs : List V), NkAll H (r.map runK) vs → ∃ bs : Rns, bs.map (·.1) = r ∧ vs = runsV bs ∧ ∀ x ∈ bs, RunAt H x.2 x.1 := by
    intro r
    induction r with
    | nil =>
      intro vs h
      cases h
      exact ⟨[], rfl, rfl, fun x hx => by cases hx⟩
    | cons x r ih =>
      intro vs h
      cases h with
      | cons h1 h2 =>
        obtain ⟨b, rfl, hb⟩ := run_at h1
        obtain ⟨bs, e1, rfl, e3⟩ := ih _ h2
        refine ⟨(x, b) :: bs, by rw [List.map_cons, e1], rfl, fun y hy => ?_⟩
        rcases List.mem_cons.mp hy with rfl | hy
        · exact hb
        · exact e3 y hy
  unfold rowK at h
  cases h with
  | tup e al =>
    obtain ⟨bs, e1, rfl, e3⟩ := key _ _ al
    exact ⟨bs, e1, e, e3⟩
theorem row_is {H : Hp} {a : Addr} {bs : Rns} (h : H a = some (.tup (runsV bs))) (hb : ∀ x ∈ bs, RunAt H x.2 x.1) : NkV H (rowK (bs.map (·.1))) (.ref a) := by
  have key : ∀ bs : Rns, (∀ x ∈ bs, RunAt H x.2 x.1) → NkAll H ((bs.map (·.1)).map runK) (runsV bs) := by
    intro bs
    induction bs with
    | nil => exact fun _ => .nil
    | cons x r ih => exact fun h => .cons (run_is (h x List.mem_cons_self)) (ih fun y hy => h y (List.mem_cons_of_mem _ hy))
  exact .tup h (key bs hb)
def pcR (r : RunL) : Nat := pcL r.2.1 r.2.2
def placesR (r : RowL) : List Nat := r.map pcR
def placesRs (rs : Rws) : List Nat := rs.flatMap fun x => placesR x.1
/-- too many alternatives, runs, places -/
def tooLarge (rs : Rws) : Bool := decide (20 < rs.length) || (rs.any fun x => decide (20 < x.1.length)) || decide (120 < (placesRs rs).sum)
def rLenSeq (K : PySem.W.Frag) : List V → Hp → VK → Prop := fun xs H Q => ∃ p ys, xs = [V.ref p] ∧ (SqL K H p ys ∨ SqT K H p ys) ∧ Q (V.int (ys.length : Nat)) H
theorem sum_cast (xs : List Nat) : (xs.map fun x : Nat => (x : Int)).sum = ((xs.sum : Nat) : Int) := by
  induction xs with
  | nil => rfl
  | cons x r ih =>
    rw [List.map_cons, List.sum_cons, List.sum_cons, ih]
    push_cast
    rfl
/-- the bounds of the kinds, by their names -/
structure Cons (mg : Str → Option Value) : Prop where
  start : ∃ t, mg "START" = some (.int 1 t)
  alt : ∃ t, mg "MOST_ALTERNATIVES" = some (.int 20 t)
  runs : ∃ t, mg "MOST_RUNS" = some (.int 20 t)
  places : ∃ t, mg "MOST_PLACES_kinds" = some (.int 120 t)
  bound : ∃ t, mg "HIGHEST_BOUND" = some (.int 40 t)
theorem placesRs_len {rs : Rws} (h : ∀ x ∈ rs, x.1.length ≤ 20) : (placesRs rs).length ≤ rs.length * 20 := by
  unfold placesRs placesR
  induction rs with
  | nil => exact Nat.le_refl _
  | cons x r ih =>
    have h1 := h x List.mem_cons_self
    have h2 := ih fun y hy => h y (List.mem_cons_of_mem _ hy)
    rw [List.flatMap_cons, List.length_append, List.length_map, List.length_cons]
    omega
theorem placesRs_succ (rs : Rws) {i : Nat} (h : i < rs.length) : placesRs (rs.take (i + 1)) = placesRs (rs.take i) ++ placesR rs[i].1 := by
  unfold placesRs
  rw [List.take_add_one, List.getElem?_eq_getElem h, List.flatMap_append]
  simp
section
variable {P : Program} {w : World} {K : PySem.W.Frag} {mg : Str → Option Value} {base : Heap}
def spToo : Sp := fun vs H Q _ => ∃ (t : Addr) (rs : Rws), vs = [.ref t] ∧ H t = some (.tup (rowsV rs)) ∧ RowsAt H rs ∧ rs.length ≤ 1000 ∧ ∀ H', Same H H' → Q (.bl (tooLarge rs)) H'
set_option maxHeartbeats 20000000 in
theorem ok_too {f : Addr} {fd : FuncData} (F : FnP K "is_too_large" "is_too_large" s_is_too_large f fd) (N : Nms mg) (Co : Cons mg) (C : Can P w K mg base CX0 "place_count" ["least", "most"] 1 spPc) : FnOk P w K mg base CX0 2 f fd ["rows"] spToo := by
  obtain ⟨fC, fdC, GC, gC, kC, bC⟩ := C
  obtain ⟨tA, gA⟩ := Co.alt
  obtain ⟨tR, gR⟩ := Co.runs
  obtain ⟨tP, gP⟩ := Co.places
  have nd := sc_is_too_large.nd
  refine F.ok sc_is_too_large (fun vs H Q E h => ?_) (fun cdv A outer s H vs Q E hr h => ?_)
  · obtain ⟨t, rs, rfl, _⟩ := h
    rfl
  · obtain ⟨t, rs, rfl, ht, at_, len, q⟩ := h
    refine ⟨_, PSs.nox (pss_cons (ps_if (PW.pt (pw_or (pt_cmpR op_gt (pe_callB call_len_seq (by rfl) N.len PySem.boot_len (pa_cons (pv 0) pa_nil)) (pe_glob (v := .int 20) (by rfl) gA ⟨_, rfl⟩) (nomark _))
          (pw_or1 (pt_val (pe_callB (cr_any rfl) (by rfl) N.any (by decide +kernel) (pa_cons (pe_lc (own := [("row", 1)]) (g := gName 1) (tt := tYes) rfl nd (pi_tup (pv 0)) (blkOk_by (N := ["rows", "row", "signs", "least", "most"]) (sc := defScope s_is_too_large) (by decide +kernel))
            (fun _ _ _ _ _ => pg_name (i := 1) nd rfl (Or.inl rfl)) (fun _ _ _ _ _ => pts_nil) (fun _ _ _ _ _ => pe_cmpR op_gt (pe_callB (r := rLenSeq K) call_len_seq (by rfl) N.len PySem.boot_len (pa_cons (pv 1) pa_nil)) (pe_glob (v := .int 20) (by rfl) gR ⟨_, rfl⟩) (nomark _))) pa_nil))))))
        (pss_one (ps_ret pe_bl)) pss_nil)
      (pss_one (ps_ret (pe_cmpR op_gt (pe_callB (cr_sum rfl) (by rfl) N.sum (by decide +kernel) (pa_cons (pe_lc2 (own := [("row", 1), ("signs", 2), ("least", 3), ("most", 4)]) (vs1 := [2, 3, 4]) (g := gName 1) (tt := tYes) (wi1 := iTup K (tVar 1)) (g1 := gTup K 3 (gCons (gName 2) (gCons (gName 3) (gCons (gName 4) gNil)))) (tt1 := tYes) rfl nd (pi_tup (pv 0))
          (blkOk_by (N := ["rows", "row", "signs", "least", "most"]) (sc := defScope s_is_too_large) (by decide +kernel)) (by decide) (fun _ _ _ _ _ => pg_name (i := 1) nd rfl (Or.inl rfl)) (fun _ _ _ _ _ => pts_nil) (fun _ _ _ _ _ => pi_tup (pv 1))
          (fun _ _ _ _ _ => pg_tup rfl (pgs_cons (pg_name (i := 2) nd rfl (Or.inl rfl) (Or.inr rfl)) (pgs_cons (pg_name (i := 3) nd rfl (Or.inl rfl) (Or.inr rfl)) (pgs_cons (pg_name (i := 4) nd rfl (Or.inl rfl) (Or.inr rfl)) pgs_nil)))) (fun _ _ _ _ _ => pts_nil)
          (fun _ _ _ _ _ => pe_call GC hr (by rfl) gC kC bC .nil pass0 (pa_cons (pv 3) (pa_cons (pv 4) pa_nil)))) pa_nil)) (pe_glob (v := .int 120) (by rfl) gP ⟨_, rfl⟩) (nomark _))))), ?_⟩
    have lenV : (rowsV rs).length = rs.length := List.length_map _
    refine ⟨_, rfl, t, _, rfl, .inr (SqT.of ht), ?_⟩
    rw [lenV]
    refine ⟨_, _, rfl, rfl, _, rfl, ?_⟩
    have getV : ∀ {i : Nat} (hi : i < rs.length) {x : V}, (rowsV rs)[i]? = some x → x = .ref rs[i].2 := fun {i} hi {x} hx => by
      unfold rowsV at hx
      rw [List.getElem?_map, List.getElem?_eq_getElem hi] at hx
      exact (Option.some.inj hx).symm
    by_cases c1 : 20 < rs.length
    · have d1 : decide ((20 : Int) < ((rs.length : Nat) : Int)) = true := decide_eq_true (by omega)
      refine (if_pos d1).mpr ?_
      refine iteT ?_
      have e : tooLarge rs = true := by unfold tooLarge; simp [c1]
      rw [e] at q
      exact q H (Same.refl H)
    have d1 : ¬ decide ((20 : Int) < ((rs.length : Nat) : Int)) = true := by simp; omega
    refine (if_neg d1).mpr ?_
    refine ⟨_, rfl, t, rfl, ⟨_, SqT.of ht⟩, fun D hD => ?_⟩
    refine lc_it (n := rs.length) (by rw [← lenV]; exact walk_tup) (fun i H' => H' D = some (.lst ((rs.take i).map fun x => V.bl (decide (20 < x.1.length)))) ∧ Same H H') ⟨upd_same, same_new hD⟩ (fun i H' _ h => SqT.of (h.2 _ _ ht)) ?_ ?_
    · rintro i x _ H2 hi ⟨e, sm⟩ ⟨rfl, hx⟩
      have ex := getV hi hx
      subst ex
      obtain ⟨bs, e1, e2, _⟩ := row_at ((at_ _ (List.getElem_mem hi)).same sm)
      refine ⟨rfl, yes_keep ?_⟩
      refine ⟨_, rfl, rs[i].2, _, rfl, .inr (SqT.of e2), _, _, rfl, rfl, _, e, ?_, ?_, fun b o z => ?_⟩
      · rw [List.length_map, List.length_take]
        exact small1000 (by omega)
      · rw [upd_same, List.take_add_one, List.getElem?_eq_getElem hi, List.map_append]
        have el : (runsV bs).length = rs[i].1.length := by
          rw [← e1]
          unfold runsV
          rw [List.length_map, List.length_map]
        rw [el]
        have ed : decide ((20 : Int) < ((rs[i].1.length : Nat) : Int)) = decide (20 < rs[i].1.length) := by
          rw [decide_eq_decide]
          omega
        dsimp only
        rw [ed]
        rfl
      · rw [upd_ne (ne_of_none z hD)]
        exact sm _ _ z
    · rintro H1 ⟨e, s1⟩
      rw [List.take_of_length_le (Nat.le_refl _)] at e
      have ee : (rs.map fun x => V.bl (decide (20 < x.1.length))) = (rs.map fun x => decide (20 < x.1.length)).map V.bl := by
        rw [List.map_map]
        rfl
      rw [ee] at e
      refine ⟨D, _, rfl, SqL.of e, _, rfl, ?_⟩
      have ea : (rs.map fun x => decide (20 < x.1.length)).any id = rs.any fun x => decide (20 < x.1.length) := by
        rw [List.any_map]
        rfl
      rw [ea]
      by_cases c2 : (rs.any fun x => decide (20 < x.1.length)) = true
      · rw [c2]
        refine iteT ?_
        have e : tooLarge rs = true := by unfold tooLarge; simp [c2]
        rw [e] at q
        exact q H1 s1
      have c2f : (rs.any fun x => decide (20 < x.1.length)) = false := by simpa using c2
      rw [c2f]
      refine iteF ?_
      dsimp only
      have few : ∀ x ∈ rs, x.1.length ≤ 20 := fun x hx => by
        have z := List.any_eq_false.mp c2f x hx
        simp only [decide_eq_true_eq] at z
        omega
      refine ⟨_, rfl, t, rfl, ⟨_, SqT.of (s1 _ _ ht)⟩, fun D2 hD2 => ?_⟩
      refine out_it (n := rs.length) (by rw [← lenV]; exact walk_tup) (fun i H' => H' D2 = some (.lst (intsV (placesRs (rs.take i)))) ∧ Same H1 H') ⟨upd_same, same_new hD2⟩ (fun i H' _ h => SqT.of (h.2 _ _ (s1 _ _ ht))) ?_ ?_
      · rintro i x _ H2 hi ⟨e, sm⟩ ⟨rfl, hx⟩
        have ex := getV hi hx
        subst ex
        obtain ⟨bs, e1, e2, e3⟩ := row_at ((at_ _ (List.getElem_mem hi)).same s1)
        have lb : (runsV bs).length = bs.length := List.length_map _
        have lr : bs.length = rs[i].1.length := by rw [← e1, List.length_map]
        have f20 := few _ (List.getElem_mem hi)
        have fl : (placesRs (rs.take i)).length ≤ 20 * 20 := Nat.le_trans (placesRs_len fun x hx => few x (List.mem_of_mem_take hx)) (by rw [List.length_take]; exact Nat.mul_le_mul_right _ (by omega))
        refine ⟨rfl, yes_keep ?_⟩
        refine ⟨_, rfl, rs[i].2, rfl, ⟨_, SqT.of (sm _ _ e2)⟩, ?_⟩
        refine in_it (n := bs.length) (by rw [← lb]; exact walk_tup) (fun j H' => H' D2 = some (.lst (intsV (placesRs (rs.take i) ++ placesR (rs[i].1.take j)))) ∧ Same H1 H') ⟨by rw [List.take_zero]; unfold placesR; rw [List.map_nil, List.append_nil]; exact e, sm⟩ (fun j H' _ h => SqT.of (h.2 _ _ e2)) ?_ ?_
        · rintro j y _ H3 hj ⟨e4, s4⟩ ⟨rfl, hy⟩
          have ey : y = .ref bs[j].2 := by
            unfold runsV at hy
            rw [List.getElem?_map, List.getElem?_eq_getElem hj] at hy
            exact (Option.some.inj hy).symm
          subst ey
          have ra : H3 bs[j].2 = some (.tup [.str bs[j].1.1, .int (bs[j].1.2.1 : Nat), mostV bs[j].1.2.2]) := s4 _ _ (e3 _ (List.getElem_mem hj))
          refine ⟨bs[j].2, _, rfl, SqT.of ra, rfl, _, _, rfl, _, _, rfl, _, _, rfl, rfl, rfl, yes_keep ?_⟩
          refine ⟨_, rfl, _, rfl, bs[j].1.2.1, bs[j].1.2.2, rfl, _, e4, ?_, ?_, fun b o z => ?_⟩
          · rw [intsV_len, List.length_append]
            unfold placesR
            rw [List.length_map, List.length_take]
            exact small1000 (by omega)
          · rw [upd_same]
            have hjr : j < rs[i].1.length := by omega
            have er : rs[i].1[j]? = some bs[j].1 := by
              rw [← e1, List.getElem?_map, List.getElem?_eq_getElem hj]
              rfl
            have et : rs[i].1.take (j + 1) = rs[i].1.take j ++ [bs[j].1] := by
              rw [List.take_add_one, er]
              rfl
            rw [et]
            unfold placesR
            rw [List.map_append, ← List.append_assoc, ← intsV_app (placesRs (rs.take i) ++ (rs[i].1.take j).map pcR)]
            rfl
          · rw [upd_ne (ne_of_none z hD2)]
            exact s4 _ _ z
        · rintro H3 ⟨e4, s4⟩
          refine ⟨?_, s4⟩
          rw [placesRs_succ rs hi, e4, lr, List.take_of_length_le (Nat.le_refl _)]
      · rintro H2 ⟨e, sm⟩
        rw [List.take_of_length_le (Nat.le_refl _)] at e
        have ei : intsV (placesRs rs) = ((placesRs rs).map fun x : Nat => (x : Int)).map V.int := by
          unfold intsV
          rw [List.map_map]
          rfl
        rw [ei] at e
        refine ⟨D2, _, rfl, SqL.of e, _, _, rfl, rfl, ?_⟩
        rw [sum_cast]
        have et : tooLarge rs = decide ((120 : Int) < (((placesRs rs).sum : Nat) : Int)) := by
          unfold tooLarge
          rw [c2f, decide_eq_false c1, Bool.false_or, Bool.false_or, decide_eq_decide]
          omega
        rw [et] at q
        exact q H2 (s1.trans sm)
end
end K14

set_option autoImplicit false
set_option maxErrors 4
namespace K14
open PySem PySem.Spec PyProof.Rows L2 Tl
def runN (r : RunL) : LNet := runL r.1 r.2.1 r.2.2
def altN (r : RowL) : LNet := chainL (r.map runN)
def kindN (rs : List RowL) : LNet := sideL (rs.map altN)
/-- a run within the bounds -/
def RunOk (r : RunL) : Prop := r.1.cps.size ≤ 1000 ∧ (∀ n, r.2.2 = some n → r.2.1 ≤ n) ∧ pcR r ≤ 500
theorem runN_chars (r : RunL) : (runN r).chars.length = pcR r := by
  unfold runN runL pcR
  exact List.length_replicate
theorem runN_ok {r : RunL} (h : RunOk r) : (runN r).Ok := runL_ok h.1 h.2.1 (Nat.le_trans h.2.2 (by decide))
theorem charsOf_runs (r : RowL) : charsOf (r.map runN) = (placesR r).sum := by
  unfold charsOf placesR
  rw [List.map_map]
  congr 1
  exact List.map_congr_left fun x _ => runN_chars x
theorem chain_ok : ∀ (ns : List LNet) (acc : LNet), acc.Ok → (∀ n ∈ ns, n.Ok) → acc.chars.length + charsOf ns ≤ 1000 → (ns.foldl chainStep acc).Ok ∧ (ns.foldl chainStep acc).chars.length = acc.chars.length + charsOf ns
  | [], acc, ok, _, _ => ⟨ok, by unfold charsOf; simp⟩
  | n :: ns, acc, ok, all, small => by
    have c : charsOf (n :: ns) = n.chars.length + charsOf ns := by unfold charsOf; simp
    have cl : (chainStep acc n).chars.length = acc.chars.length + n.chars.length := by
      unfold chainStep
      exact List.length_append
    obtain ⟨r1, r2⟩ := chain_ok ns (chainStep acc n) (chainStep_ok ok (all n List.mem_cons_self) (by omega)) (fun x hx => all x (List.mem_cons_of_mem _ hx)) (by omega)
    exact ⟨r1, by rw [List.foldl_cons, r2]; omega⟩
theorem altN_ok {r : RowL} (h : ∀ x ∈ r, RunOk x) (small : (placesR r).sum ≤ 500) : (altN r).Ok ∧ (altN r).chars.length = (placesR r).sum := by
  have z := chain_ok (r.map runN) chain0 chain0_ok (fun n hn => by
    obtain ⟨x, hx, rfl⟩ := List.mem_map.mp hn
    exact runN_ok (h x hx)) (by rw [charsOf_runs]; show 0 + _ ≤ 1000; omega)
  refine ⟨z.1, ?_⟩
  show (List.foldl chainStep chain0 (r.map runN)).chars.length = _
  rw [z.2, charsOf_runs]
  show 0 + _ = _
  omega
/-- a net that has nothing at D -/
def NetOff (NC D : Addr) (H : Hp) (r : Addr) (n : LNet) : Prop := ∃ dx c f d, (r ≠ D ∧ c ≠ D ∧ f ≠ D ∧ d ≠ D) ∧ H r = some (.ins NC dx [("chars", .ref c), ("follow", .ref f), ("exits", .int (n.exits : Nat)), ("stands_for", .ref d)]) ∧ H c = some (.lst (strsV n.chars)) ∧ H f = some (.lst (intsV n.follow)) ∧ H d = some (.dK (standsFor n.chars))
theorem NetOff.at {NC D : Addr} {H : Hp} {r : Addr} {n : LNet} (h : NetOff NC D H r n) : NetAt NC H r n := by
  obtain ⟨dx, c, f, d, _, h⟩ := h
  exact ⟨dx, c, f, d, h⟩
theorem NetOff.same {NC D : Addr} {H H' : Hp} {r : Addr} {n : LNet} (h : NetOff NC D H r n) (s : ∀ b o, b ≠ D → H b = some o → H' b = some o) : NetOff NC D H' r n := by
  obtain ⟨dx, c, f, d, ⟨n1, n2, n3, n4⟩, h1, h2, h3, h4⟩ := h
  exact ⟨dx, c, f, d, ⟨n1, n2, n3, n4⟩, s _ _ n1 h1, s _ _ n2 h2, s _ _ n3 h3, s _ _ n4 h4⟩
theorem NetNew.off {NC D : Addr} {H H' : Hp} {r c f : Addr} {n : LNet} {o : HO} (h : NetNew NC H H' r c f n) (hr : H r = none) (hc : H c = none) (hf : H f = none) (hD : H D = some o) : NetOff NC D H' r n := by
  obtain ⟨dx, d, h0, h⟩ := h
  have ne : ∀ {x : Addr}, H x = none → x ≠ D := fun {x} z e => by
    rw [e, hD] at z
    cases z
  exact ⟨dx, c, f, d, ⟨ne hr, ne hc, ne hf, ne h0⟩, h⟩
/-- a net made after H0 -/
def NetFar (NC : Addr) (H0 H : Hp) (r : Addr) (n : LNet) : Prop := ∃ dx c f d, (H0 r = none ∧ H0 c = none ∧ H0 f = none ∧ H0 d = none) ∧ H r = some (.ins NC dx [("chars", .ref c), ("follow", .ref f), ("exits", .int (n.exits : Nat)), ("stands_for", .ref d)]) ∧ H c = some (.lst (strsV n.chars)) ∧ H f = some (.lst (intsV n.follow)) ∧ H d = some (.dK (standsFor n.chars))
theorem NetFar.at {NC : Addr} {H0 H : Hp} {r : Addr} {n : LNet} (h : NetFar NC H0 H r n) : NetAt NC H r n := by
  obtain ⟨dx, c, f, d, _, h⟩ := h
  exact ⟨dx, c, f, d, h⟩
theorem NetFar.keep {NC : Addr} {H0 H H' : Hp} {r : Addr} {n : LNet} (h : NetFar NC H0 H r n) (s : ∀ b o, H0 b = none → H b = some o → H' b = some o) : NetFar NC H0 H' r n := by
  obtain ⟨dx, c, f, d, ⟨n1, n2, n3, n4⟩, h1, h2, h3, h4⟩ := h
  exact ⟨dx, c, f, d, ⟨n1, n2, n3, n4⟩, s _ _ n1 h1, s _ _ n2 h2, s _ _ n3 h3, s _ _ n4 h4⟩
theorem NetFar.from {NC : Addr} {H0 H1 H : Hp} {r : Addr} {n : LNet} (h : NetFar NC H1 H r n) (s : ∀ x, H1 x = none → H0 x = none) : NetFar NC H0 H r n := by
  obtain ⟨dx, c, f, d, ⟨n1, n2, n3, n4⟩, h⟩ := h
  exact ⟨dx, c, f, d, ⟨s _ n1, s _ n2, s _ n3, s _ n4⟩, h⟩
theorem NetNew.far {NC : Addr} {H H' : Hp} {r c f : Addr} {n : LNet} (h : NetNew NC H H' r c f n) (hr : H r = none) (hc : H c = none) (hf : H f = none) : NetFar NC H H' r n := by
  obtain ⟨dx, d, h0, h⟩ := h
  exact ⟨dx, c, f, d, ⟨hr, hc, hf, h0⟩, h⟩
section
variable {P : Program} {w : World} {K : PySem.W.Frag} {mg : Str → Option Value} {base : Heap} {NC : Addr}
def spAlt (NC : Addr) : Sp := fun vs H Q _ => ∃ (a : Addr) (r : RowL), vs = [.ref a] ∧ NkV H (rowK r) (.ref a) ∧ (∀ x ∈ r, RunOk x) ∧ (placesR r).sum ≤ 500 ∧ r.length ≤ 500 ∧ GivesNet NC H Q (altN r)
set_option maxHeartbeats 20000000 in
theorem ok_alt {f : Addr} {fd : FuncData} (F : FnP K "alternative_net" "alternative_net" s_alternative_net f fd) (C : Can P w K mg base CX0 "chained" ["nets"] 4 (spNets NC chainL)) (R : Can P w K mg base CX0 "run_net" ["signs", "least", "most"] 4 (spRunNet NC)) : FnOk P w K mg base CX0 5 f fd ["row"] (spAlt NC) := by
  obtain ⟨fC, fdC, GC, gC, kC, bC⟩ := C
  obtain ⟨fR, fdR, GR, gR, kR, bR⟩ := R
  have nd := sc_alternative_net.nd
  refine F.ok sc_alternative_net (fun vs H Q E h => ?_) (fun cdv A outer s H vs Q E hr h => ?_)
  · obtain ⟨a, r, rfl, _⟩ := h
    rfl
  · obtain ⟨a, r, rfl, nk, ok, small, len, q⟩ := h
    refine ⟨_, PSs.nox (pss_one (ps_ret (pe_call GC hr (by rfl) gC kC bC .nil pass0 (pa_cons (pe_lc (own := [("signs", 1), ("least", 2), ("most", 3)]) (g := gTup K 3 (gCons (gName 1) (gCons (gName 2) (gCons (gName 3) gNil)))) (tt := tYes) rfl nd (pi_tup (pv 0)) (blkOk_by (N := ["row", "signs", "least", "most"]) (sc := defScope s_alternative_net) (by decide +kernel))
        (fun _ _ _ _ _ => pg_tup rfl (pgs_cons (pg_name (i := 1) nd rfl (Or.inl rfl) (Or.inr rfl)) (pgs_cons (pg_name (i := 2) nd rfl (Or.inl rfl) (Or.inr rfl)) (pgs_cons (pg_name (i := 3) nd rfl (Or.inl rfl) (Or.inr rfl)) pgs_nil)))) (fun _ _ _ _ _ => pts_nil)
        (fun _ _ _ _ _ => pe_call GR hr (by rfl) gR kR bR .nil pass0 (pa_cons (pv 1) (pa_cons (pv 2) (pa_cons (pv 3) pa_nil))))) pa_nil)))), ?_⟩
    obtain ⟨bs, e1, e2, e3⟩ := row_at nk
    have lb : (runsV bs).length = bs.length := List.length_map _
    have lr : bs.length = r.length := by rw [← e1, List.length_map]
    refine ⟨_, rfl, a, rfl, ⟨_, SqT.of e2⟩, fun D hD => ?_⟩
    refine lc_it (n := bs.length) (by rw [← lb]; exact walk_tup) (fun j H' => ∃ ps : Prs, H' D = some (.lst (refsP ps)) ∧ netsP ps = (r.take j).map runN ∧ (∀ x ∈ ps, NetOff NC D H' x.1 x.2 ∧ x.2.Ok) ∧ Same H H') ⟨[], upd_same, rfl, (fun x hx => by cases hx), same_new hD⟩ (fun j H' _ h => by
      obtain ⟨_, _, _, _, sm⟩ := h
      exact SqT.of (sm _ _ e2)) ?_ ?_
    · rintro j y _ H3 hj ⟨ps, e4, en, na, sm⟩ ⟨rfl, hy⟩
      have ey : y = .ref bs[j].2 := by
        unfold runsV at hy
        rw [List.getElem?_map, List.getElem?_eq_getElem hj] at hy
        exact (Option.some.inj hy).symm
      subst ey
      have ra : H3 bs[j].2 = some (.tup [.str bs[j].1.1, .int (bs[j].1.2.1 : Nat), mostV bs[j].1.2.2]) := sm _ _ (e3 _ (List.getElem_mem hj))
      have er : r[j]? = some bs[j].1 := by
        rw [← e1, List.getElem?_map, List.getElem?_eq_getElem hj]
        rfl
      obtain ⟨o1, o2, o3⟩ := ok _ (List.mem_of_getElem? er)
      refine ⟨bs[j].2, _, rfl, SqT.of ra, rfl, _, _, rfl, _, _, rfl, _, _, rfl, rfl, rfl, yes_keep ?_⟩
      refine ⟨_, rfl, _, rfl, _, rfl, bs[j].1.1, bs[j].1.2.1, bs[j].1.2.2, rfl, o1, o2, o3, fun n nc nf H4 s4 hn0 hnc hnf nat => ?_⟩
      have eD := s4 _ _ e4
      have lp : ps.length = j := by
        have z := congrArg List.length en
        unfold netsP at z
        rw [List.length_map, List.length_map, List.length_take] at z
        omega
      have nD : n ≠ D := fun z => by
        rw [z, e4] at hn0
        cases hn0
      have keep : ∀ b o, b ≠ D → H4 b = some o → (upd H4 D (.lst (refsP ps ++ [.ref n]))) b = some o := fun b o nb z => by
        rw [upd_ne nb]
        exact z
      refine ⟨_, eD, ?_, ps ++ [(n, runN bs[j].1)], ?_, ?_, ?_, fun b o z => ?_⟩
      · unfold refsP
        rw [List.length_map, lp]
        exact small1000 (by omega)
      · rw [upd_same]
        unfold refsP
        rw [List.map_append]
        rfl
      · unfold netsP at en ⊢
        rw [List.map_append, en, List.take_add_one, er, List.map_append]
        rfl
      · intro x hx
        have off : ∀ b o, b ≠ D → H4 b = some o → (upd H4 D (.lst (refsP ps ++ [.ref n]))) b = some o := keep
        rcases List.mem_append.mp hx with hx | hx
        · exact ⟨((na x hx).1.same fun b o _ z => s4 _ _ z).same off, (na x hx).2⟩
        · rw [List.mem_singleton.mp hx]
          exact ⟨(nat.off hn0 hnc hnf e4).same off, runN_ok ⟨o1, o2, o3⟩⟩
      · rw [upd_ne (ne_of_none z hD)]
        exact s4 _ _ (sm _ _ z)
    · rintro H1 ⟨ps, e4, en, na, sm⟩
      rw [lr, List.take_of_length_le (Nat.le_refl _)] at en
      refine ⟨D, ps, rfl, e4, fun x hx => ⟨(na x hx).1.at, (na x hx).2⟩, ?_, ?_⟩
      · rw [en, charsOf_runs]
        exact small
      · rw [en]
        exact fun n nc nf H2 s2 hn hc hf at_ => q n nc nf H2 (sm.trans s2) (sm.free hn) (sm.free hc) (sm.free hf) (at_.of sm)
end
end K14

/-! bool(a) of an own class, bool(text). -/
namespace Tl
open PySem PySem.Spec PyProof.Rows L2
theorem bool_by {prog : Program} {w : World} (v : Value) :
    MeetsIn prog w (Builtin.«bool.__new__» ⟨[.type "bool", v], []⟩) (fun A R s => wpAny (model prog w) A.in1 (truthy v) (fun b s' => R (.ok (.ret (.bool b))) s') (fun e s' => R (.error e) s') s) := by
  intro A R s h
  have f1 := F.conv_sub_bool
  obtain ⟨hp, g, d, tk, os⟩ := s
  unfold Builtin.«bool.__new__»
  generalize hT : truthy = TR at h ⊢
  repeat (any_goals (first | assumption | wp_step))
  all_goals skip
  exact wpAny_mono h (fun b s' q => wpAny_pure q) fun _ _ z => z
theorem call_bool_by {prog : Program} {w : World} {A : Around} {E : Value → Shared → Prop} {s : Shared} {v : Value} {Q : Value → Shared → Prop}
    (h : wpAny (model prog w) A.in1.in1 (truthy v) (fun b s' => Q (.bool b) s') E s) : wpAny (model prog w) A (call (.type "bool") [v]) Q E s :=
  callType_newIn F.called_bool F.newNe_bool (F.typeCall_bool_1 v) (F.newCall_bool_1 v) (fun obj => F.args_object_init_2 obj v) F.entry_bool_new (bool_by v)
    (wpAny_mono h (fun b s' q => ⟨rfl, q⟩) fun _ _ z => z)
section
variable {X : Cx} {CX : CXT} {k : Nat} {C f : Addr} {fd : FuncData} {ps : List Str} {sp : Sp} {E : XK}
/-- bool(a), a an instance of C with an own __bool__ -/
def rBoolO (C : Addr) (sp : Sp) (E : XK) : List V → Hp → VK → Prop := fun xs H Q => ∃ a dx fs, xs = [.ref a] ∧ H a = some (.ins C dx fs) ∧ sp [.ref a] H (fun v H' => ∃ b, v = .bl b ∧ Q (.bl b) H') E
theorem call_boolO (M : OpC X.K C "__bool__" f) (F : FnOk X.prog X.w X.K X.mg X.base CX k f fd ps sp) (hr : Room (k + 2) X.A) (hb : Binds X.K fd ps []) (hx : Passes CX X E) : CallR X (.type "bool") (rBoolO C sp E) := by
  intro pins s σ H xs us Q I r h
  obtain ⟨a, dx, fs, rfl, ha, q⟩ := h
  rw [Vals.ref1 r]
  obtain ⟨oa, da, Ja⟩ := inst_of I ha
  obtain ⟨mm, Fm⟩ := I.fr
  have hl : ([Value.ref a] ++ []).length = ps.length := by
    rw [← F.len _ _ _ _ q]
    rfl
  refine call_bool_by (PySem.W.truthy_K Fm I.mod.kin Ja M.at_ M.fn (wpAny_call (codeAny_mono (F.run X.A.in1.in1 X.stack s H ⟨[.ref a], []⟩ [.ref a] [.ref a] _ E hr.in1.in1 I.env0.in1.in1 (hb _ [.ref a] I.kIn hl) (.cons (relRef _) .nil) q) fun r s' hq => ?_)))
  cases r with
  | error er => exact hx pins σ H s er s' I hq
  | ok fl =>
    cases fl with
    | ret u =>
      obtain ⟨v, H', I3, rv, b, rfl, q3⟩ := I.after hq
      cases rv
      exact ⟨.bl b, H', I3, rfl, q3⟩
    | next => exact False.elim hq
    | brk => exact False.elim hq
    | cont => exact False.elim hq
/-- bool(z) of a text -/
theorem call_boolTx : CallR X (.type "bool") (fun xs H Q => ∃ l : List Nat, xs = [.str (tx l)] ∧ l.length ≤ 16777216 ∧ Q (.bl (!l.isEmpty)) H) := by
  intro pins s σ H xs us Q I r h
  obtain ⟨l, rfl, hl, q⟩ := h
  obtain ⟨u, rfl, t, rfl⟩ := vals1 r
  have e : (((tx l).length : Int) != 0) = !l.isEmpty := by
    rw [len_tx]
    cases l with
    | nil => rfl
    | cons x l2 =>
      rw [List.length_cons]
      show ((((l2.length + 1 : Nat) : Int) != 0)) = true
      rw [bne_iff_ne]
      omega
  refine call_bool_str (by rw [len_tx]; omega) ⟨.bl (!l.isEmpty), H, I.tok _, by rw [e]; rfl, q⟩
end
end Tl

set_option autoImplicit false
set_option maxErrors 4
namespace K14
open PySem PySem.Spec PyProof.Rows L2 Tl
/-! ### the mathematics of sets of signs: an ascending list of codes -/
def norm (l : List Nat) : List Nat := alpha.filter fun n => decide (n ∈ l)
theorem mem_norm {l : List Nat} (h : ∀ n ∈ l, n ∈ alpha) (n : Nat) : n ∈ norm l ↔ n ∈ l := by
  unfold norm
  rw [List.mem_filter, decide_eq_true_eq]
  exact ⟨fun x => x.2, fun x => ⟨h n x, x⟩⟩
theorem norm_sub (l : List Nat) : ∀ n ∈ norm l, n ∈ alpha := fun n h => (List.mem_filter.mp h).1
theorem norm_congr {l k : List Nat} (h : ∀ n ∈ alpha, n ∈ l ↔ n ∈ k) : norm l = norm k := by
  unfold norm
  exact List.filter_congr fun n hn => by
    rw [decide_eq_decide]
    exact h n hn
theorem norm_norm (l : List Nat) : norm (norm l) = norm l := norm_congr fun n hn => by
  unfold norm
  rw [List.mem_filter, decide_eq_true_eq]
  exact ⟨fun x => x.2, fun x => ⟨hn, x⟩⟩
theorem norm_len (l : List Nat) : (norm l).length ≤ 94 := by
  have h := List.length_filter_le (fun n => decide (n ∈ l)) alpha
  rw [alpha_len] at h
  exact h
theorem norm_filter (l : List Nat) (p : Nat → Bool) : (norm l).filter p = norm ((norm l).filter p) := by
  have e : norm ((norm l).filter p) = alpha.filter fun n => decide (n ∈ l) && p n := by
    unfold norm
    refine List.filter_congr fun n hn => ?_
    rw [Bool.eq_iff_iff, decide_eq_true_eq, List.mem_filter, List.mem_filter, Bool.and_eq_true]
    exact ⟨fun x => ⟨x.1.2, x.2⟩, fun x => ⟨⟨hn, x.1⟩, x.2⟩⟩
  rw [e]
  unfold norm
  rw [List.filter_filter]
  exact List.filter_congr fun n _ => Bool.and_comm _ _
/-! ### the class Signs -/
/-- the attributes of a set of the signs S -/
def flS (S : List Nat) : List (Str × V) := [("signs", .str (tx S))]
theorem flS_signs (S : List Nat) : (flS S).lookup ("signs" : Str) = some (.str (tx S)) := by
  unfold flS
  simp [List.lookup]
theorem flS_no (S : List Nat) {m : Str} (h : ¬ m = "signs") : (flS S).lookup m = none := by
  unfold flS
  have e : (m == ("signs" : Str)) = false := by simpa using h
  simp [List.lookup, e]
/-- a set of signs stands at a -/
structure Sg (C : Addr) (H : Hp) (a : Addr) (S : List Nat) : Prop where
  ob : ∃ dx, H a = some (.ins C dx (flS S))
  can : norm S = S
theorem Sg.at {C : Addr} {H H' : Hp} {a : Addr} {S : List Nat} (h : Sg C H a S) (k : ∀ o, H a = some o → H' a = some o) : Sg C H' a S := by
  obtain ⟨⟨dx, e⟩, c⟩ := h
  exact ⟨⟨dx, k _ e⟩, c⟩
theorem Sg.len {C : Addr} {H : Hp} {a : Addr} {S : List Nat} (h : Sg C H a S) : S.length ≤ 94 := by
  rw [← h.can]
  exact norm_len S
theorem Sg.sub {C : Addr} {H : Hp} {a : Addr} {S : List Nat} (h : Sg C H a S) : ∀ n ∈ S, n ∈ alpha := by
  rw [← h.can]
  exact norm_sub S
/-- a text of signs -/
structure SgT (l : List Nat) : Prop where
  sub : ∀ n ∈ l, n ∈ alpha
  few : l.length ≤ 2000
theorem Sg.txt {C : Addr} {H : Hp} {a : Addr} {S : List Nat} (h : Sg C H a S) : SgT S := ⟨h.sub, Nat.le_trans h.len (by decide)⟩
/-- what the walk asks of the class Signs -/
structure Txt (K : PySem.W.Frag) (mg : Str → Option Value) (C : Addr) : Prop where
  cl : Cls K C
  nS : NoAttr K C "signs"
  gC : mg "Signs" = some (.ref C)
  sgn : ∃ t, mg "SIGNS" = some (.str (tx alpha) t)
  kStr : PySem.W.kitOne K (.type "str") (.ref C) = some false
  kOwn : PySem.W.kitOne K (.ref C) (.ref C) = some true
  sStr : PySem.W.kitOne K (.ref C) (.type "str") = some false
  c1 : PySem.W.findIn K (.ref C) "__class__" = some (some (.builtin "object.__class__"))
  c2 : PySem.W.specialIn K (.builtin "object.__class__") "__get__" = some (some (.builtin "getset_descriptor.__get__"))
  c3 : PySem.W.takesIn K (.builtin "object.__class__") = some true
  c4 : PySem.W.mroIn K C (.type "object") = some true
theorem Txt.ty {K : PySem.W.Frag} {mg : Str → Option Value} {C : Addr} (T : Txt K mg C) {H : Hp} {a : Addr} {S : List Nat} (h : Sg C H a S) : TyX K H (.ref a) (.ref C) := by
  obtain ⟨⟨dx, e⟩, _⟩ := h
  exact .base (.ins e T.cl T.c1 T.c2 T.c3 T.c4)
/-- what an operand may be: a set of the signs S or a text of them -/
def Opd (C : Addr) (H : Hp) (x : V) (S : List Nat) : Prop := (∃ a, x = .ref a ∧ Sg C H a S) ∨ ∃ l, x = .str (tx l) ∧ SgT l ∧ S = norm l
abbrev Gives (H : Hp) (Q : VK) (v : V) : Prop := ∀ H', Same H H' → Q v H'
/-- what is asked whether it is signs -/
inductive Asked (K : PySem.W.Frag) (C : Addr) (H : Hp) : V → Bool → Prop
  | set {a : Addr} {S : List Nat} : Sg C H a S → Asked K C H (.ref a) true
  | txt {l : List Nat} : l.length ≤ 2000 → Asked K C H (.str (tx l)) (l.all fun n => decide (n ∈ alpha))
  | off {x : V} {t : Value} : TyX K H x t → PySem.W.kitOne K t (.ref C) = some false → PySem.W.kitOne K t (.type "str") = some false → Asked K C H x false
section
variable {P : Program} {w : World} {K : PySem.W.Frag} {mg : Str → Option Value} {base : Heap} {C : Addr}
def spTextA (K : PySem.W.Frag) (C : Addr) : Sp := fun vs H Q _ => ∃ x b, vs = [x] ∧ Asked K C H x b ∧ (∀ a, x = .ref a → b = false) ∧ Gives H Q (.bl b)
theorem ok_is_sign_text {f : Addr} {fd : FuncData} (F : FnP K "is_sign_text" "is_sign_text" s_is_sign_text f fd) (T : Txt K mg C) (N : Nms mg) : FnOk P w K mg base CX0 1 f fd ["thing"] (spTextA K C) := by
  have nd := sc_is_sign_text.nd
  refine F.ok sc_is_sign_text (fun vs H Q E h => ?_) (fun cdv A outer s H vs Q E hr h => ?_)
  · obtain ⟨x, b, rfl, _⟩ := h
    rfl
  · obtain ⟨x, b, rfl, ak, nr, q⟩ := h
    obtain ⟨t, gS⟩ := T.sgn
    refine ⟨_, PSs.nox (pss_one (ps_ret (pe_and (pe_callB call_isi (by rfl) N.isi (by decide +kernel) (pa_cons (pv 0) (pa_cons (pe_bltn (v := .ty "str") (by rfl) N.str (by decide +kernel) rfl) pa_nil)))
      (pe_one (pe_callB (cr_all rfl) (by rfl) N.all (by decide +kernel) (pa_cons (pe_lc (own := [("sign", 1)]) (g := gName 1) (tt := tYes) rfl nd (pi_str (pv 0)) (blkOk_by (N := ["thing", "sign"]) (sc := defScope s_is_sign_text) (by decide +kernel)) (fun _ _ _ _ _ => pg_name (i := 1) nd rfl (Or.inl rfl)) (fun _ _ _ _ _ => pts_nil)
        (fun _ _ _ _ _ => pe_cmpR op_in_sign (pv 1) (pe_glob (v := .str (tx alpha)) rfl gS ⟨_, rfl⟩) rfl)) pa_nil)))))), ?_⟩
    cases ak with
    | set h => cases nr _ rfl
    | off ty _ ks => exact ⟨_, rfl, _, _, _, _, false, rfl, .ty "str", ty, ks, false, rfl, iteF (q H (Same.refl H))⟩
    | @txt l hl =>
      refine ⟨_, rfl, _, _, _, _, true, rfl, .ty "str", .base (.str _), kit_ty (by decide +kernel), true, rfl, iteT ?_⟩
      refine cb_one ?_
      refine lc_tx (l := l) (p := fun _ => true) (f := fun n => V.bl (decide (n ∈ alpha))) (i := 1) (Nat.le_trans hl (by decide)) (fun Q' z => ⟨_, rfl, z⟩) (fun _ => rfl) (fun n H2 Qb _ z => z) (fun n H2 Q' _ z => ⟨_, rfl, n, tx alpha, rfl, rfl, z⟩) fun D hD => ?_
      have eb : ((l.filter fun _ => true).map fun n => V.bl (decide (n ∈ alpha))) = (l.map fun n => decide (n ∈ alpha)).map V.bl := by
        rw [List.filter_eq_self.mpr (fun _ _ => rfl), List.map_map]
        rfl
      refine ⟨D, _, rfl, SqL.of (by rw [← eb]; exact upd_same), ?_⟩
      have ea : (l.map fun n => decide (n ∈ alpha)).all id = l.all fun n => decide (n ∈ alpha) := by
        rw [List.all_map]
        rfl
      rw [ea]
      exact q _ (same_new hD)
def spSigns (K : PySem.W.Frag) (C : Addr) : Sp := fun vs H Q _ => ∃ x b, vs = [x] ∧ Asked K C H x b ∧ Gives H Q (.bl b)
theorem ok_is_signs {f : Addr} {fd : FuncData} (F : FnP K "is_signs" "is_signs" s_is_signs f fd) (T : Txt K mg C) (N : Nms mg) (I : Can P w K mg base CX0 "is_sign_text" ["thing"] 1 (spTextA K C)) : FnOk P w K mg base CX0 2 f fd ["thing"] (spSigns K C) := by
  obtain ⟨fI, fdI, GI, gI, kI, bI⟩ := I
  refine F.ok sc_is_signs (fun vs H Q E h => ?_) (fun cdv A outer s H vs Q E hr h => ?_)
  · obtain ⟨x, b, rfl, _⟩ := h
    rfl
  · obtain ⟨x, b, rfl, ak, q⟩ := h
    refine ⟨_, PSs.nox (pss_one (ps_ret (pe_or (pe_callB call_isi (by rfl) N.isi (by decide +kernel) (pa_cons (pv 0) (pa_cons (pe_glob (v := .ref C) rfl T.gC rfl) pa_nil))) (pe_one (pe_call GI hr (by rfl) gI kI bI .nil pass0 (pa_cons (pv 0) pa_nil)))))), ?_⟩
    cases ak with
    | set h => exact ⟨_, rfl, _, _, _, _, true, rfl, .own C, T.ty h, T.kOwn, true, rfl, iteT (q H (Same.refl H))⟩
    | off ty kc ks => exact ⟨_, rfl, _, _, _, _, false, rfl, .own C, ty, kc, false, rfl, iteF ⟨_, rfl, _, false, rfl, .off ty kc ks, fun _ _ => rfl, q⟩⟩
    | @txt l hl => exact ⟨_, rfl, _, _, _, _, false, rfl, .own C, .base (.str _), T.kStr, false, rfl, iteF ⟨_, rfl, _, _, rfl, .txt hl, (fun a z => by cases z), q⟩⟩
/-- a new set of signs -/
def spInit (C : Addr) : Sp := fun vs H Q _ => ∃ p dx l, vs = [.ref p, .str (tx l)] ∧ H p = some (.ins C dx []) ∧ SgT l ∧ ∀ H', (∀ x o, H x = some o → x ≠ p → H' x = some o) → H' p = some (.ins C dx (flS (norm l))) → Q .non H'
theorem ok_init {f fT : Addr} {fd fdT : FuncData} (F : FunD K "__init__" "Signs.__init__" (defArgs s_Signs_init_) (defBody s_Signs_init_) (defScope s_Signs_init_) [.str ""] [] f fd) (T : Txt K mg C)
    (GT : FnOk P w K mg base CX0 1 fT fdT ["thing"] (spTextA K C)) (gT : mg "is_sign_text" = some (.ref fT)) (kT : PySem.W.keepIn K (.ref fT) = true) (bT : Binds K fdT ["thing"] []) : FnOk P w K mg base CX0 2 f fd ["self", "text"] (spInit C) := by
  have nd := sc_Signs_init_.nd
  refine F.ok sc_Signs_init_ (fun vs H Q E h => ?_) (fun cdv A outer s H vs Q E hr h => ?_)
  · obtain ⟨p, dx, l, rfl, _⟩ := h
    rfl
  · obtain ⟨p, dx, l, rfl, hp, hl, q⟩ := h
    obtain ⟨t, gS⟩ := T.sgn
    refine ⟨_, PSs.nox (pss_cons (ps_if (pt_not (pt_val (pe_call GT hr (by rfl) gT kT bT .nil pass0 (pa_cons (pv 1) pa_nil)))) (pss_one ps_never) pss_nil)
      (pss_one (ps_fld (pv 0) (pe_join pe_str (pe_lc (own := [("sign", 2)]) (g := gName 2) rfl nd (pi_str (pe_glob (v := .str (tx alpha)) rfl gS ⟨_, rfl⟩)) (blkOk_by (N := ["self", "text", "sign"]) (sc := defScope s_Signs_init_) (by decide +kernel)) (fun _ _ _ _ _ => pg_name (i := 2) nd rfl (Or.inl rfl))
      (fun _ _ _ _ _ => pts_one (pt_cmpR op_in_sign (pv 2) (pv 1) rfl)) (fun _ _ _ _ _ => pv 2))) rfl))), ?_⟩
    have al : (l.all fun n => decide (n ∈ alpha)) = true := List.all_eq_true.mpr fun n hn => decide_eq_true (hl.sub n hn)
    refine ⟨_, rfl, _, _, rfl, .txt hl.few, (fun a z => by cases z), fun H1 s1 => ⟨_, rfl, ?_⟩⟩
    rw [al]
    refine iteF ?_
    unfold tNext sFld
    dsimp only
    refine join_tx (i := 2) (p := fun n => decide (n ∈ l)) (l := alpha) rfl (by rw [alpha_len]; decide) (fun Q' z => z) (fun _ => rfl) (fun _ => rfl) (fun n H2 Qb _ z => ⟨_, rfl, _, rfl, n, tx l, rfl, rfl, _, rfl, z⟩) fun H2 s2 => ?_
    have hp2 := s2 _ _ (s1 _ _ hp)
    refine ⟨_, rfl, p, C, dx, _, rfl, hp2, T.cl, T.nS, (by show 0 < 1000; decide), ?_⟩
    refine q _ (fun x o e nx => ?_) upd_same
    rw [upd_ne nx]
    exact s2 _ _ (s1 _ _ e)
/-- how Signs(..) is made -/
def CanMk (P : Program) (w : World) (K : PySem.W.Frag) (mg : Str → Option Value) (base : Heap) (C : Addr) : Prop := ∃ f fd, Mk K C f ∧ FnOk P w K mg base CX0 2 f fd ["self", "text"] (spInit C) ∧ Binds K fd ["self", "text"] [] ∧ ∃ ds, Vals [.str ""] ds ∧ Binds K fd ["self", "text"] ds
/-- a new set of the signs S, beside a heap in which all stands as it stood -/
abbrev GivesSg (C : Addr) (H : Hp) (Q : VK) (S : List Nat) : Prop := ∀ (r : Addr) (H' : Hp), Same H H' → H r = none → Sg C H' r S → Q (.ref r) H'
/-- what the making of Signs(text) asks -/
theorem make_rd {H : Hp} {Q : VK} {l : List Nat} (hl : SgT l) (q : GivesSg C H Q (norm l)) : ∀ x dx, H x = none → H dx = none → dx ≠ x → spInit C (.ref x :: ([.str (tx l)] ++ [])) (upd (upd H dx (.own x)) x (.ins C dx [])) (fun v H2 => v = .non ∧ Q (.ref x) H2) E0 := by
  intro x dx hx hdx ne
  refine ⟨x, dx, l, rfl, upd_same, hl, fun H' k e => ⟨rfl, q x H' (fun b o z => k b o ?_ (ne_of_none z hx)) hx ⟨⟨dx, e⟩, norm_norm l⟩⟩⟩
  rw [upd_ne (ne_of_none z hx), upd_ne (ne_of_none z hdx)]
  exact z
def spOf (C : Addr) : Sp := fun vs H Q _ => ∃ x S, vs = [x] ∧ Opd C H x S ∧ Gives H Q (.str (tx S))
theorem ok_signs_of {f : Addr} {fd : FuncData} (F : FnP K "signs_of" "signs_of" s_signs_of f fd) (T : Txt K mg C) (N : Nms mg) (M : CanMk P w K mg base C) : FnOk P w K mg base CX0 4 f fd ["thing"] (spOf C) := by
  obtain ⟨fI, fdI, MI, GI, bI, _⟩ := M
  have nd := sc_signs_of.nd
  refine F.ok sc_signs_of (fun vs H Q E h => ?_) (fun cdv A outer s H vs Q E hr h => ?_)
  · obtain ⟨x, S, rfl, _⟩ := h
    rfl
  · obtain ⟨x, S, rfl, hx, q⟩ := h
    refine ⟨_, PSs.nox (pss_cons (ps_if (pt_val (pe_callB call_isi (by rfl) N.isi (by decide +kernel) (pa_cons (pv 0) (pa_cons (pe_glob (v := .ref C) rfl T.gC rfl) pa_nil)))) (pss_one (ps_ret (pe_fld (pv 0) rfl))) pss_nil)
      (pss_one (ps_ret (pe_fld (pe_make MI GI hr (by rfl) T.gC bI .nil pass0 (pa_cons (pv 0) pa_nil)) rfl)))), ?_⟩
    rcases hx with ⟨a, rfl, hS⟩ | ⟨l, rfl, hl, rfl⟩
    · refine ⟨_, rfl, _, _, _, _, true, rfl, .own C, T.ty hS, T.kOwn, true, rfl, iteT ?_⟩
      obtain ⟨⟨dx, e⟩, _⟩ := id hS
      exact ⟨_, rfl, a, C, dx, _, _, rfl, e, T.cl, T.nS, flS_signs S, q H fun _ _ z => z⟩
    · refine ⟨_, rfl, _, _, _, _, false, rfl, .own C, .base (.str _), T.kStr, false, rfl, iteF ?_⟩
      refine ⟨_, rfl, ?_⟩
      refine fun r dx hr0 hdx ne => ⟨r, dx, l, rfl, upd_same, hl, fun H' k e => ⟨rfl, r, C, dx, _, _, rfl, e, T.cl, T.nS, flS_signs _, q H' fun b o z => k b o ?_ (ne_of_none z hr0)⟩⟩
      rw [upd_ne (ne_of_none z hr0), upd_ne (ne_of_none z hdx)]
      exact z
end
end K14

set_option autoImplicit false
set_option maxErrors 4
namespace K14
open PySem PySem.Spec PyProof.Rows L2 Tl
/-! ### bounds, rows, short texts -/
/-- a value that is given as a bound -/
inductive Bn
  | int (n : Int)
  | none
  | other
def BnAt (K : PySem.W.Frag) (H : Hp) (v : V) : Bn → Prop
  | .int n => v = .int n
  | .none => v = .non
  | .other => NoInt K H v ∧ v ≠ .non
def boundsOk : Bn → Bn → Option (Nat × Option Nat)
  | .int l, .none => if 0 ≤ l ∧ l ≤ 40 then some (l.toNat, Option.none) else Option.none
  | .int l, .int m => if 0 ≤ l ∧ l ≤ 40 ∧ 1 ≤ m ∧ m ≤ 40 ∧ l ≤ m then some (l.toNat, some m.toNat) else Option.none
  | _, _ => Option.none
theorem bo_n (l : Int) : boundsOk (.int l) .none = if 0 ≤ l ∧ l ≤ 40 then some (l.toNat, Option.none) else Option.none := rfl
theorem bo_i (l m : Int) : boundsOk (.int l) (.int m) = if 0 ≤ l ∧ l ≤ 40 ∧ 1 ≤ m ∧ m ≤ 40 ∧ l ≤ m then some (l.toNat, some m.toNat) else Option.none := rfl
theorem noInt_non {K : PySem.W.Frag} {H : Hp} : NoInt K H .non := ⟨.type "NoneType", false, false, .base .non, kit_ty (by decide +kernel), kit_ty (by decide +kernel), rfl⟩
theorem noInt_bl {K : PySem.W.Frag} {H : Hp} (b : Bool) : NoInt K H (.bl b) := ⟨.type "bool", true, true, .base (.bl b), kit_ty (by decide +kernel), kit_ty (by decide +kernel), rfl⟩
theorem noInt_str {K : PySem.W.Frag} {H : Hp} (z : Str) : NoInt K H (.str z) := ⟨.type "str", false, false, .base (.str z), kit_ty (by decide +kernel), kit_ty (by decide +kernel), rfl⟩
theorem noInt_lst {K : PySem.W.Frag} {H : Hp} {a : Addr} {xs : List V} (e : H a = some (.lst xs)) : NoInt K H (.ref a) := ⟨.type "list", false, false, .base (.lst e), kit_ty (by decide +kernel), kit_ty (by decide +kernel), rfl⟩
theorem tyX_same {K : PySem.W.Frag} {H H' : Hp} {x : V} {t : Value} (h : TyX K H x t) (s : Same H H') : TyX K H' x t := by
  cases h with
  | base b =>
    cases b with
    | non => exact .base .non
    | bl b => exact .base (.bl b)
    | int i => exact .base (.int i)
    | str z => exact .base (.str z)
    | flt z => exact .base (.flt z)
    | lst e => exact .base (.lst (s _ _ e))
    | frz e => exact .base (.frz (s _ _ e))
    | tup e => exact .base (.tup (s _ _ e))
    | dK e => exact .base (.dK (s _ _ e))
    | dT e => exact .base (.dT (s _ _ e))
    | ins e cl a b c d => exact .base (.ins (s _ _ e) cl a b c d)
  | byt b => exact .byt b
  | set e => exact .set (s _ _ e)
  | kList e c => exact .kList e c
  | kTuple e c => exact .kTuple e c
  | kDict e c => exact .kDict e c
  | fTuple e => exact .fTuple (s _ _ e)
  | fDict e => exact .fDict (s _ _ e)
theorem noInt_same {K : PySem.W.Frag} {H H' : Hp} {x : V} (h : NoInt K H x) (s : Same H H') : NoInt K H' x := by
  obtain ⟨t, b1, b2, ty, r⟩ := h
  exact ⟨t, b1, b2, tyX_same ty s, r⟩
theorem BnAt.same {K : PySem.W.Frag} {H H' : Hp} {v : V} {b : Bn} (h : BnAt K H v b) (s : Same H H') : BnAt K H' v b := by
  cases b with
  | int n => exact h
  | none => exact h
  | other => exact ⟨noInt_same h.1 s, h.2⟩
theorem kit2 {K : PySem.W.Frag} {t : Value} {b1 b2 : Bool} (k1 : PySem.W.kitOne K t (.type "list") = some b1) (k2 : PySem.W.kitOne K t (.type "tuple") = some b2) : PySem.W.kitAny K t [.type "list", .type "tuple"] = some (b1 || b2) := by
  unfold PySem.W.kitAny
  rw [k1]
  cases b1 with
  | true => rfl
  | false =>
    show PySem.W.kitAny K t [.type "tuple"] = _
    unfold PySem.W.kitAny
    rw [k2]
    cases b2 <;> rfl
section
variable {P : Program} {w : World} {K : PySem.W.Frag} {mg : Str → Option Value} {base : Heap} {C : Addr}
def spBounds (K : PySem.W.Frag) : Sp := fun vs H Q _ => ∃ (x y : V) (a b : Bn), vs = [x, y] ∧ BnAt K H x a ∧ BnAt K H y b ∧ Q (.bl (boundsOk a b).isSome) H
theorem ok_bounds {f : Addr} {fd : FuncData} (F : FnP K "are_bounds" "are_bounds" s_are_bounds f fd) (Co : Cons mg) (I : Can P w K mg base CX0 "is_integer_within" ["thing", "low", "high"] 2 (spWithin K)) : FnOk P w K mg base CX0 3 f fd ["least", "most"] (spBounds K) := by
  obtain ⟨fI, fdI, GI, gI, kI, bI⟩ := I
  obtain ⟨tB, gB⟩ := Co.bound
  refine F.ok sc_are_bounds (fun vs H Q E h => ?_) (fun cdv A outer s H vs Q E hr h => ?_)
  · obtain ⟨x, y, a, b, rfl, _⟩ := h
    rfl
  · obtain ⟨x, y, a, b, rfl, ha, hb, q⟩ := h
    refine ⟨_, PSs.nox (pss_cons (ps_if (pt_not (pt_val (pe_call GI hr (by rfl) gI kI bI .nil pass0 (pa_cons (pv 0) (pa_cons pe_int (pa_cons (pe_glob (v := .int 40) (by rfl) gB ⟨_, rfl⟩) pa_nil)))))) (pss_one (ps_ret pe_bl)) pss_nil)
      (pss_one (ps_ret (pe_or (pe_cmpR op_isN (pv 1) pe_non (nomark _)) (pe_one (pe_and (pe_call GI hr (by rfl) gI kI bI .nil pass0 (pa_cons (pv 1) (pa_cons pe_int (pa_cons (pe_glob (v := .int 40) (by rfl) gB ⟨_, rfl⟩) pa_nil)))) (pe_one (pe_cmpR op_le (pv 0) (pv 1) (nomark _))))))))), ?_⟩
    refine ⟨_, rfl, x, 0, 40, rfl, ?_⟩
    cases a with
    | none =>
      cases ha
      have e : (boundsOk .none b).isSome = false := by cases b <;> rfl
      rw [e] at q
      exact .inr ⟨noInt_non, _, rfl, iteT q⟩
    | other =>
      have e : (boundsOk .other b).isSome = false := by cases b <;> rfl
      rw [e] at q
      exact .inr ⟨ha.1, _, rfl, iteT q⟩
    | int l =>
      cases ha
      refine .inl ⟨l, rfl, _, rfl, ?_⟩
      by_cases hl : 0 ≤ l ∧ l ≤ 40
      · rw [decide_eq_true hl]
        refine iteF ?_
        cases b with
        | none =>
          cases hb
          refine ⟨_, rfl, rfl, true, rfl, iteT ?_⟩
          have e : (boundsOk (.int l) .none).isSome = true := by rw [bo_n, if_pos hl]; rfl
          rw [e] at q
          exact q
        | other =>
          refine ⟨_, rfl, rfl, false, congrArg V.bl (decide_eq_false hb.2), iteF ?_⟩
          exact ⟨_, rfl, y, 1, 40, rfl, .inr ⟨hb.1, false, rfl, iteF q⟩⟩
        | int m =>
          cases hb
          refine ⟨_, rfl, rfl, false, rfl, iteF ?_⟩
          refine ⟨_, rfl, _, 1, 40, rfl, .inl ⟨m, rfl, _, rfl, ?_⟩⟩
          by_cases hm : 1 ≤ m ∧ m ≤ 40
          · rw [decide_eq_true hm]
            refine iteT ?_
            refine ⟨_, rfl, _, rfl, _, _, rfl, rfl, ?_⟩
            have e : (boundsOk (.int l) (.int m)).isSome = decide (l ≤ m) := by
              rw [bo_i]
              by_cases z : l ≤ m
              · rw [if_pos ⟨hl.1, hl.2, hm.1, hm.2, z⟩, decide_eq_true z]
                rfl
              · rw [if_neg (fun y => z y.2.2.2.2), decide_eq_false z]
                rfl
            rw [e] at q
            exact q
          · rw [decide_eq_false hm]
            refine iteF ?_
            have e : (boundsOk (.int l) (.int m)).isSome = false := by
              rw [bo_i]
              rw [if_neg (fun y => hm ⟨y.2.2.1, y.2.2.2.1⟩)]
              rfl
            rw [e] at q
            exact q
      · rw [decide_eq_false hl]
        refine iteT ?_
        have e : (boundsOk (.int l) b).isSome = false := by
          cases b with
          | none => rw [bo_n, if_neg hl]; rfl
          | int m => rw [bo_i, if_neg (fun y => hl ⟨y.1, y.2.1⟩)]; rfl
          | other => rfl
        rw [e] at q
        exact q
end
end K14

set_option autoImplicit false
set_option maxErrors 4
namespace K14
open PySem PySem.Spec PyProof.Rows L2 Tl
/-! ### Kind(rows) -/
section
variable {H H' : Hp}
mutual
theorem nkT (s : ∀ b xs, H b = some (.tup xs) → H' b = some (.tup xs)) : ∀ (k : NestedKey) (v : V), NkV H k v → NkV H' k v
  | .none, _, x => by cases x; exact .non
  | .num i, _, x => by cases x; exact .int i
  | .text z, _, x => by cases x; exact .str z
  | .tup ks, _, x => by
    cases x with
    | tup e al => exact .tup (s _ _ e) (nkTA s ks _ al)
theorem nkTA (s : ∀ b xs, H b = some (.tup xs) → H' b = some (.tup xs)) : ∀ (ks : List NestedKey) (vs : List V), NkAll H ks vs → NkAll H' ks vs
  | [], _, x => by cases x; exact .nil
  | k :: ks, _, x => by
    cases x with
    | cons x1 x2 => exact .cons (nkT s k _ x1) (nkTA s ks _ x2)
end
end
theorem RowsAt.tups {H H' : Hp} {rs : Rws} (h : RowsAt H rs) (s : ∀ b xs, H b = some (.tup xs) → H' b = some (.tup xs)) : RowsAt H' rs := fun x hx => nkT s _ _ (h x hx)
/-- all but p stands as it stood -/
def But (p : Addr) (H H' : Hp) : Prop := ∀ x o, H x = some o → x ≠ p → H' x = some o
/-- a class of no arguments that is raised -/
structure Plain (K : PySem.W.Frag) (mg : Str → Option Value) (x : Str) (C : Addr) : Prop where
  g : mg x = some (.ref C)
  e : PySem.W.excIn K C He.veBase "ValueError.__new__" = true
  k : PySem.W.keepIn K (.ref C) = true
  s : PySem.W.subIn K (.ref C) (.type "BaseException") = some true
  t : PySem.W.typeIn K (.ref C) = some (.type "type")
theorem pmk_plain {X : Cx} {x : Str} {C : Addr} {p pos : Pos} (h : Plain X.K X.mg x C) (hg : Gl X x) (hdb : (x == ("__debug__" : Str)) = false := by decide) : L2N.PMk X (.Call (.Name x p) [] [] pos) (fun _ H Q => Q (.ref C) none H) :=
  pmkN_own0 F.excBase_ValueError h.e h.g h.k (raises_own h.s h.t) hg hdb
/-- what is asked of the class Kind -/
structure KindC (K : PySem.W.Frag) (KC : Addr) : Prop where
  cl : Cls K KC
  n1 : NoAttr K KC "rows"
  n2 : NoAttr K KC "net"
/-- the alternatives keep to the bounds of nets -/
def RowsOk (rs : Rws) : Prop := ∀ x ∈ rs, ∀ r ∈ x.1, RunOk r
theorem onceR_ok {rs : Rws} (h : RowsOk rs) : RowsOk (onceR rs) := fun x hx => h x (onceR_sub x hx)
theorem onceR_len (rs : Rws) : (onceR rs).length ≤ rs.length := by
  have z := onceR_take_len rs rs.length
  rw [List.take_of_length_le (Nat.le_refl _)] at z
  exact z
abbrev kindF (t n : Addr) : List (Str × V) := [("rows", .ref t), ("net", .ref n)]
theorem sum_mem {xs : List Nat} {x : Nat} (h : x ∈ xs) : x ≤ xs.sum := by
  induction xs with
  | nil => cases h
  | cons y r ih =>
    rw [List.sum_cons]
    rcases List.mem_cons.mp h with rfl | h
    · omega
    · have := ih h
      omega
theorem placesRs_mem {rs : Rws} {x : RowL × Addr} (h : x ∈ rs) : (placesR x.1).sum ≤ (placesRs rs).sum := by
  unfold placesRs
  induction rs with
  | nil => cases h
  | cons y r ih =>
    rw [List.flatMap_cons, List.sum_append]
    rcases List.mem_cons.mp h with rfl | h
    · omega
    · have := ih h
      omega
theorem charsOf_alts {rs : Rws} (h : RowsOk rs) (small : (placesRs rs).sum ≤ 500) : charsOf ((rs.map (·.1)).map altN) = (placesRs rs).sum := by
  unfold charsOf placesRs
  induction rs with
  | nil => rfl
  | cons y r ih =>
    have hy := placesRs_mem (rs := y :: r) (x := y) List.mem_cons_self
    have hr : (placesRs r).sum ≤ 500 := by
      unfold placesRs at small ⊢
      rw [List.flatMap_cons, List.sum_append] at small
      omega
    rw [List.flatMap_cons, List.sum_append, List.map_cons, List.map_cons, List.map_cons, List.sum_cons, ih (fun x hx => h x (List.mem_cons_of_mem _ hx)) hr, (altN_ok (h y List.mem_cons_self) (by omega)).2]
section
variable {P : Program} {w : World} {K : PySem.W.Frag} {mg : Str → Option Value} {base : Heap} {NC KC BK : Addr}
def spKInit (NC KC BK : Addr) : Sp := fun vs H Q E => ∃ (p dx l : Addr) (rs : Rws), vs = [.ref p, .ref l] ∧ H p = some (.ins KC dx []) ∧ (H l = some (.lst (rowsV rs)) ∨ H l = some (.tup (rowsV rs))) ∧ RowsAt H rs ∧ rs.length ≤ 1000 ∧ RowsOk rs ∧
  ((tooLarge (onceR rs) = true ∧ ∀ H', But p H H' → E (.ref BK) none H') ∨
   (tooLarge (onceR rs) = false ∧ ∀ t n H', But p H H' → H t = none → H' p = some (.ins KC dx (kindF t n)) → H' t = some (.tup (rowsV (onceR rs))) → NetFar NC H H' n (kindN ((onceR rs).map (·.1))) → Q .non H'))
set_option maxHeartbeats 20000000 in
theorem ok_kinit {f : Addr} {fd : FuncData} (F : FnP K "__init__" "Kind.__init__" s_Kind_init_ f fd) (T : KindC K KC) (PB : Plain K mg "BadKind" BK) (W : Can P w K mg base CX0 "without_repeats" ["rows"] 1 spWr) (L : Can P w K mg base CX0 "is_too_large" ["rows"] 2 spToo)
    (S : Can P w K mg base CX0 "side_by_side" ["nets"] 4 (spNets NC sideL)) (A : Can P w K mg base CX0 "alternative_net" ["row"] 5 (spAlt NC)) : FnOk P w K mg base (L2N.CX P w) 6 f fd ["self", "rows"] (spKInit NC KC BK) := by
  obtain ⟨fW, fdW, GW, gW, kW, bW⟩ := W
  obtain ⟨fL, fdL, GL, gL, kL, bL⟩ := L
  obtain ⟨fS, fdS, GS, gS, kS, bS⟩ := S
  obtain ⟨fA, fdA, GA, gA, kA, bA⟩ := A
  have nd := sc_Kind_init_.nd
  refine F.ok sc_Kind_init_ (fun vs H Q E h => ?_) (fun cdv A outer s H vs Q E hr h => ?_)
  · obtain ⟨p, dx, l, rs, rfl, _⟩ := h
    rfl
  · obtain ⟨p, dx, l, rs, rfl, hp, hl, at_, len, ok, q⟩ := h
    have tk := L2N.takes_of (X := cxOf (L2N.CX P w) P w K mg base ["self", "rows", "row"] "Kind.__init__" (defScope s_Kind_init_) f cdv A outer s H E) (E := E) rfl rfl rfl rfl
    have r4 := hr.mono (show 4 ≤ 5 by decide)
    have r2 := hr.mono (show 2 ≤ 5 by decide)
    have r1 := hr.mono (show 1 ≤ 5 by decide)
    refine ⟨_, pss_cons (ps_fld (pv 0) (pe_call GW r1 (by rfl) gW kW bW .nil pass0 (pa_cons (pv 1) pa_nil)) rfl)
      (pss_cons (ps_if (pt_val (pe_call GL r2 (by rfl) gL kL bL .nil pass0 (pa_cons (pe_fld (pv 0) rfl) pa_nil))) (pss_one (L2N.ps_raise rfl tk (pmk_plain PB rfl))) pss_nil)
      (pss_one (ps_fld (pv 0) (pe_call GS r4 (by rfl) gS kS bS .nil pass0 (pa_cons (pe_lc (own := [("row", 2)]) (g := gName 2) (tt := tYes) rfl nd (pi_tup (pe_fld (pv 0) rfl)) (blkOk_by (N := ["self", "rows", "row"]) (sc := defScope s_Kind_init_) (by decide +kernel))
        (fun _ _ _ _ _ => pg_name (i := 2) nd rfl (Or.inl rfl)) (fun _ _ _ _ _ => pts_nil) (fun _ _ _ _ _ => pe_call GA hr (by rfl) gA kA bA .nil pass0 (pa_cons (pv 2) pa_nil))) pa_nil)) rfl))), ?_⟩
    refine ⟨_, rfl, l, rs, rfl, hl, at_, len, fun t H1 s1 ht0 ht => ?_⟩
    refine ⟨_, rfl, p, KC, dx, _, rfl, s1 _ _ hp, T.cl, T.n1, (by show 0 < 1000; decide), ?_⟩
    have ntp : t ≠ p := fun z => by rw [z, hp] at ht0; cases ht0
    have e1 : upd H1 p (.ins KC dx [("rows", .ref t)]) t = some (.tup (rowsV (onceR rs))) := by
      rw [upd_ne ntp]
      exact ht
    have tups : ∀ b xs, H1 b = some (.tup xs) → upd H1 p (.ins KC dx [("rows", .ref t)]) b = some (.tup xs) := fun b xs z => by
      by_cases e : b = p
      · rw [e, s1 _ _ hp] at z
        cases z
      · rw [upd_ne e]
        exact z
    have at1 : RowsAt (upd H1 p (.ins KC dx [("rows", .ref t)])) (onceR rs) := RowsAt.tups (fun x hx => ((at_.same s1) x (onceR_sub x hx))) tups
    have len1 : (onceR rs).length ≤ 1000 := Nat.le_trans (onceR_len rs) len
    have b1 : But p H (upd H1 p (.ins KC dx [("rows", .ref t)])) := fun x o e n => by
      rw [upd_ne n]
      exact s1 _ _ e
    show _
    refine ⟨_, rfl, p, KC, dx, _, _, rfl, upd_same, T.cl, T.n1, lk_hit, ?_⟩
    refine ⟨t, onceR rs, rfl, e1, at1, len1, fun H2 s2 => ⟨_, rfl, ?_⟩⟩
    rcases q with ⟨big, q⟩ | ⟨small, q⟩
    · rw [big]
      refine iteT ?_
      exact q _ fun x o e n => s2 _ _ (b1 x o e n)
    rw [small]
    refine iteF ?_
    have sums : (placesRs (onceR rs)).sum ≤ 120 ∧ (onceR rs).length ≤ 20 ∧ ∀ x ∈ onceR rs, x.1.length ≤ 20 := by
      unfold tooLarge at small
      rw [Bool.or_eq_false_iff, Bool.or_eq_false_iff] at small
      obtain ⟨⟨a1, a2⟩, a3⟩ := small
      have a1 := of_decide_eq_false a1
      have a3 := of_decide_eq_false a3
      refine ⟨by omega, by omega, fun x hx => ?_⟩
      have z := List.any_eq_false.mp a2 x hx
      simp only [decide_eq_true_eq] at z
      omega
    have hp2 := s2 _ _ (upd_same (H := H1) (a := p) (o := .ins KC dx [("rows", .ref t)]))
    have ht2 := s2 _ _ e1
    have at2 := at1.same s2
    have ok2 := onceR_ok ok
    have lenV : (rowsV (onceR rs)).length = (onceR rs).length := List.length_map _
    show _
    refine ⟨_, rfl, p, KC, dx, _, _, rfl, hp2, T.cl, T.n1, lk_hit, t, rfl, ⟨_, SqT.of ht2⟩, fun D hD => ?_⟩
    refine lc_it (n := (onceR rs).length) (by rw [← lenV]; exact walk_tup) (fun j H' => ∃ ps : Prs, H' D = some (.lst (refsP ps)) ∧ netsP ps = (((onceR rs).take j).map (·.1)).map altN ∧ (∀ x ∈ ps, NetOff NC D H' x.1 x.2 ∧ x.2.Ok) ∧ Same H2 H') ⟨[], upd_same, rfl, (fun x hx => by cases hx), same_new hD⟩ (fun j H' _ h => by
      obtain ⟨_, _, _, _, sm⟩ := h
      exact SqT.of (sm _ _ ht2)) ?_ ?_
    · rintro j y _ H3 hj ⟨ps, e4, en, na, sm⟩ ⟨rfl, hy⟩
      have ey : y = .ref (onceR rs)[j].2 := by
        unfold rowsV at hy
        rw [List.getElem?_map, List.getElem?_eq_getElem hj] at hy
        exact (Option.some.inj hy).symm
      subst ey
      have mem := List.getElem_mem hj
      have pl := placesRs_mem mem
      refine ⟨rfl, yes_keep ?_⟩
      refine ⟨_, rfl, _, (onceR rs)[j].1, rfl, ((at2 _ mem).same sm), ok2 _ mem, by omega, (Nat.le_trans (sums.2.2 _ mem) (by decide)), fun n nc nf H4 s4 hn0 hnc hnf nat => ?_⟩
      have eD := s4 _ _ e4
      have lp : ps.length = j := by
        have z := congrArg List.length en
        unfold netsP at z
        rw [List.length_map, List.length_map, List.length_map, List.length_take] at z
        omega
      have keep : ∀ b o, b ≠ D → H4 b = some o → (upd H4 D (.lst (refsP ps ++ [.ref n]))) b = some o := fun b o nb z => by
        rw [upd_ne nb]
        exact z
      have okn := altN_ok (ok2 _ mem) (show (placesR (onceR rs)[j].1).sum ≤ 500 by omega)
      refine ⟨_, eD, ?_, ps ++ [(n, altN (onceR rs)[j].1)], ?_, ?_, ?_, fun b o z => ?_⟩
      · unfold refsP
        rw [List.length_map, lp]
        exact small1000 (by omega)
      · rw [upd_same]
        unfold refsP
        rw [List.map_append]
        rfl
      · unfold netsP at en ⊢
        rw [List.map_append, en, List.take_add_one, List.getElem?_eq_getElem hj, List.map_append, List.map_append]
        rfl
      · intro x hx
        rcases List.mem_append.mp hx with hx | hx
        · exact ⟨((na x hx).1.same fun b o _ z => s4 _ _ z).same keep, (na x hx).2⟩
        · rw [List.mem_singleton.mp hx]
          exact ⟨(nat.off hn0 hnc hnf e4).same keep, okn.1⟩
      · rw [upd_ne (ne_of_none z hD)]
        exact s4 _ _ (sm _ _ z)
    · rintro H3 ⟨ps, e4, en, na, sm⟩
      rw [List.take_of_length_le (Nat.le_refl _)] at en
      refine ⟨D, ps, rfl, e4, fun x hx => ⟨(na x hx).1.at, (na x hx).2⟩, ?_, ?_⟩
      · rw [en, charsOf_alts ok2 (by omega)]
        omega
      · rw [en]
        refine fun n nc nf H4 s4 hn hc hf net => ?_
        have hp4 := s4 _ _ (sm _ _ hp2)
        have ht4 := s4 _ _ (sm _ _ ht2)
        refine ⟨_, rfl, p, KC, dx, _, rfl, hp4, T.cl, T.n2, (by show 1 < 1000; decide), ?_⟩
        refine q t n _ (fun x o e nx => ?_) ht0 ?_ ?_ (((net.far hn hc hf).from (H0 := H) fun x hx => ?_).keep fun b o hb z => ?_)
        · rw [upd_ne nx]
          exact s4 _ _ (sm _ _ (s2 _ _ (b1 x o e nx)))
        · rw [upd_same]
          rfl
        · rw [upd_ne ntp]
          exact ht4
        · cases e : H x with
          | none => rfl
          | some o =>
            by_cases ep : x = p
            · rw [ep, sm _ _ hp2] at hx
              cases hx
            · rw [sm _ _ (s2 _ _ (b1 x o e ep))] at hx
              cases hx
        · rw [upd_ne (fun ep => by rw [ep, hp] at hb; cases hb)]
          exact z
end
end K14

set_option autoImplicit false
set_option maxErrors 4
namespace K14
open PySem PySem.Spec PyProof.Rows L2 Tl
/-! ### Kind.run, Kind.words -/
/-- a kind stands at k -/
def KindAt (KC NC : Addr) (H : Hp) (k : Addr) (rows : List RowL) : Prop := ∃ (dx t n : Addr) (rs : Rws), H k = some (.ins KC dx (kindF t n)) ∧ H t = some (.tup (rowsV rs)) ∧ rs.map (·.1) = rows ∧ RowsAt H rs ∧ NetAt NC H n (kindN rows)
theorem KindAt.same {KC NC : Addr} {H H' : Hp} {k : Addr} {rows : List RowL} (h : KindAt KC NC H k rows) (s : Same H H') : KindAt KC NC H' k rows := by
  obtain ⟨dx, t, n, rs, h1, h2, h3, h4, h5⟩ := h
  exact ⟨dx, t, n, rs, s _ _ h1, s _ _ h2, h3, h4.same s, h5.same s⟩
/-- the same, its net left aside -/
def KindL (KC : Addr) (H : Hp) (k : Addr) (rows : List RowL) : Prop := ∃ (dx t n : Addr) (rs : Rws), H k = some (.ins KC dx (kindF t n)) ∧ H t = some (.tup (rowsV rs)) ∧ rs.map (·.1) = rows ∧ RowsAt H rs
theorem KindAt.lite {KC NC : Addr} {H : Hp} {k : Addr} {rows : List RowL} (h : KindAt KC NC H k rows) : KindL KC H k rows := by
  obtain ⟨dx, t, n, rs, h1, h2, h3, h4, _⟩ := h
  exact ⟨dx, t, n, rs, h1, h2, h3, h4⟩
theorem KindL.same {KC : Addr} {H H' : Hp} {k : Addr} {rows : List RowL} (h : KindL KC H k rows) (s : Same H H') : KindL KC H' k rows := by
  obtain ⟨dx, t, n, rs, h1, h2, h3, h4⟩ := h
  exact ⟨dx, t, n, rs, s _ _ h1, s _ _ h2, h3, h4.same s⟩
/-- instances and tuples stay -/
theorem KindL.stay {KC : Addr} {H H' : Hp} {k : Addr} {rows : List RowL} (h : KindL KC H k rows) (si : ∀ a C dx fs, H a = some (.ins C dx fs) → H' a = some (.ins C dx fs)) (st : ∀ b xs, H b = some (.tup xs) → H' b = some (.tup xs)) : KindL KC H' k rows := by
  obtain ⟨dx, t, n, rs, h1, h2, h3, h4⟩ := h
  exact ⟨dx, t, n, rs, si _ _ _ _ h1, st _ _ h2, h3, h4.tups st⟩
/-- a kind whose net was made after H0 -/
def KindN (KC NC : Addr) (H0 H : Hp) (k : Addr) (rows : List RowL) : Prop := ∃ (dx t n : Addr) (rs : Rws), H k = some (.ins KC dx (kindF t n)) ∧ H t = some (.tup (rowsV rs)) ∧ rs.map (·.1) = rows ∧ RowsAt H rs ∧ NetFar NC H0 H n (kindN rows)
theorem KindN.lite {KC NC : Addr} {H0 H : Hp} {k : Addr} {rows : List RowL} (h : KindN KC NC H0 H k rows) : KindL KC H k rows := by
  obtain ⟨dx, t, n, rs, h1, h2, h3, h4, _⟩ := h
  exact ⟨dx, t, n, rs, h1, h2, h3, h4⟩
theorem KindN.at {KC NC : Addr} {H0 H : Hp} {k : Addr} {rows : List RowL} (h : KindN KC NC H0 H k rows) : KindAt KC NC H k rows := by
  obtain ⟨dx, t, n, rs, h1, h2, h3, h4, h5⟩ := h
  exact ⟨dx, t, n, rs, h1, h2, h3, h4, h5.at⟩
theorem KindN.same {KC NC : Addr} {H0 H H' : Hp} {k : Addr} {rows : List RowL} (h : KindN KC NC H0 H k rows) (s : Same H H') : KindN KC NC H0 H' k rows := by
  obtain ⟨dx, t, n, rs, h1, h2, h3, h4, h5⟩ := h
  exact ⟨dx, t, n, rs, s _ _ h1, s _ _ h2, h3, h4.same s, h5.keep fun b o _ z => s _ _ z⟩
theorem KindN.from {KC NC : Addr} {H0 H1 H : Hp} {k : Addr} {rows : List RowL} (h : KindN KC NC H1 H k rows) (s : Same H0 H1) : KindN KC NC H0 H k rows := by
  obtain ⟨dx, t, n, rs, h1, h2, h3, h4, h5⟩ := h
  exact ⟨dx, t, n, rs, h1, h2, h3, h4, h5.from fun x hx => s.free hx⟩
/-- instances, tuples and all that is new stay -/
theorem KindN.stay {KC NC : Addr} {H0 H H' : Hp} {k : Addr} {rows : List RowL} (h : KindN KC NC H0 H k rows) (si : ∀ a C dx fs, H a = some (.ins C dx fs) → H' a = some (.ins C dx fs)) (st : ∀ b xs, H b = some (.tup xs) → H' b = some (.tup xs)) (sn : ∀ b o, H0 b = none → H b = some o → H' b = some o) : KindN KC NC H0 H' k rows := by
  obtain ⟨dx, t, n, rs, h1, h2, h3, h4, h5⟩ := h
  exact ⟨dx, t, n, rs, si _ _ _ _ h1, st _ _ h2, h3, h4.tups st, h5.keep sn⟩
abbrev GivesKind (KC NC : Addr) (H : Hp) (Q : VK) (rows : List RowL) : Prop := ∀ (k : Addr) (H' : Hp), Same H H' → H k = none → KindAt KC NC H' k rows → Q (.ref k) H'
abbrev Raised (H : Hp) (E : XK) (C : Addr) : Prop := ∀ H', Same H H' → E (.ref C) none H'
/-- what is kept of rows, each where it stands first -/
def putL (acc : List RowL) (r : RowL) : List RowL := if r ∈ acc then acc else acc ++ [r]
def onceL (rows : List RowL) : List RowL := rows.foldl putL []
theorem onceR_fst (rs : Rws) : (onceR rs).map (·.1) = onceL (rs.map (·.1)) := by
  have key : ∀ (xs acc : Rws), (xs.foldl putR acc).map (·.1) = (xs.map (·.1)).foldl putL (acc.map (·.1)) := by
    intro xs
    induction xs with
    | nil => exact fun _ => rfl
    | cons x xs ih =>
      intro acc
      rw [List.foldl_cons, List.map_cons, List.foldl_cons, ih]
      congr 1
      unfold putR putL
      split
      · rfl
      · rw [List.map_append]
        rfl
  exact key rs []
/-- too many alternatives, runs, places -/
def bigL (rows : List RowL) : Bool := decide (20 < rows.length) || (rows.any fun r => decide (20 < r.length)) || decide (120 < (rows.flatMap placesR).sum)
theorem tooLarge_fst (rs : Rws) : tooLarge rs = bigL (rs.map (·.1)) := by
  unfold tooLarge bigL placesRs
  rw [List.length_map, List.any_map, List.flatMap_map]
  rfl
theorem onceL_sub {rows : List RowL} : ∀ r ∈ onceL rows, r ∈ rows := by
  have key : ∀ (xs acc : List RowL), ∀ y ∈ xs.foldl putL acc, y ∈ acc ∨ y ∈ xs := by
    intro xs
    induction xs with
    | nil => exact fun acc y h => .inl h
    | cons x xs ih =>
      intro acc y h
      rcases ih _ y h with h | h
      · unfold putL at h
        split at h
        · exact .inl h
        · rcases List.mem_append.mp h with h | h
          · exact .inl h
          · exact .inr (by rw [List.mem_singleton.mp h]; exact List.mem_cons_self)
      · exact .inr (List.mem_cons_of_mem _ h)
  intro y h
  exact (key rows [] y h).elim (fun z => by cases z) id
/-- a kind or its refusal -/
def Out (KC NC BK : Addr) (H : Hp) (Q : VK) (E : XK) (rows : List RowL) : Prop := (bigL (onceL rows) = true → Raised H E BK) ∧ (bigL (onceL rows) = false → ∀ (k : Addr) (H' : Hp), Same H H' → KindN KC NC H H' k (onceL rows) → Q (.ref k) H')
section
variable {KC NC BK : Addr}
theorem make_kind {H : Hp} {Q : VK} {E : XK} {l : Addr} {rs : Rws} (hl : H l = some (.lst (rowsV rs)) ∨ H l = some (.tup (rowsV rs))) (at_ : RowsAt H rs) (len : rs.length ≤ 1000) (ok : RowsOk rs) (q : Out KC NC BK H Q E (rs.map (·.1))) :
    ∀ x dx, H x = none → H dx = none → dx ≠ x → spKInit NC KC BK (.ref x :: ([.ref l] ++ [])) (upd (upd H dx (.own x)) x (.ins KC dx [])) (fun v H2 => v = .non ∧ Q (.ref x) H2) E := by
  intro x dx hx hdx ne
  have far : Same H (upd (upd H dx (.own x)) x (.ins KC dx [])) := fun b o e => by
    rw [upd_ne (ne_of_none e hx), upd_ne (ne_of_none e hdx)]
    exact e
  have onw : ∀ {H'}, But x (upd (upd H dx (.own x)) x (.ins KC dx [])) H' → Same H H' := fun k b o e => k b o (far b o e) (ne_of_none e hx)
  refine ⟨x, dx, l, rs, rfl, upd_same, hl.imp (far _ _) (far _ _), at_.same far, len, ok, ?_⟩
  obtain ⟨q1, q2⟩ := q
  rw [tooLarge_fst, onceR_fst]
  cases hb : bigL (onceL (rs.map (·.1))) with
  | true => exact .inl ⟨rfl, fun H' k => q1 hb H' (onw k)⟩
  | false => exact .inr ⟨rfl, fun t n H' k ht hk et en => ⟨rfl, q2 hb x H' (onw k) ⟨dx, t, n, onceR rs, hk, et, onceR_fst rs, fun y hy => (at_.same (onw k)) y (onceR_sub y hy), onceR_fst rs ▸ en.from fun x hx => far.free hx⟩⟩⟩
end
/-- what is shown to run as signs -/
inductive Spl (K : PySem.W.Frag) (C : Addr) (H : Hp) : V → Option (List Nat) → Prop
  | set {a : Addr} {S : List Nat} : Sg C H a S → Spl K C H (.ref a) (some S)
  | txt {l : List Nat} : SgT l → Spl K C H (.str (tx l)) (some (norm l))
  | bad {l : List Nat} : l.length ≤ 2000 → (l.all fun n => decide (n ∈ alpha)) = false → Spl K C H (.str (tx l)) none
  | off {x : V} {t : Value} : TyX K H x t → PySem.W.kitOne K t (.ref C) = some false → PySem.W.kitOne K t (.type "str") = some false → Spl K C H x none
theorem Sg.same {C : Addr} {H H' : Hp} {a : Addr} {S : List Nat} (h : Sg C H a S) (s : Same H H') : Sg C H' a S := h.at fun _ e => s _ _ e
theorem Spl.same {K : PySem.W.Frag} {C : Addr} {H H' : Hp} {x : V} {S : Option (List Nat)} (h : Spl K C H x S) (s : Same H H') : Spl K C H' x S := by
  cases h with
  | set g => exact .set (g.same s)
  | txt g => exact .txt g
  | bad g e => exact .bad g e
  | off t a b => exact .off (tyX_same t s) a b
theorem Spl.ask {K : PySem.W.Frag} {C : Addr} {H : Hp} {x : V} {S : Option (List Nat)} (h : Spl K C H x S) : Asked K C H x S.isSome := by
  cases h with
  | set g => exact .set g
  | @txt l g =>
    have z := Asked.txt (K := K) (C := C) (H := H) g.few
    rw [List.all_eq_true.mpr fun n hn => decide_eq_true (g.sub n hn)] at z
    exact z
  | bad g e =>
    have z := Asked.txt (K := K) (C := C) (H := H) g
    rw [e] at z
    exact z
  | off t a b => exact .off t a b
theorem Spl.opd {K : PySem.W.Frag} {C : Addr} {H : Hp} {x : V} {S : List Nat} (h : Spl K C H x (some S)) : Opd C H x S := by
  cases h with
  | set g => exact .inl ⟨_, rfl, g⟩
  | txt g => exact .inr ⟨_, rfl, g, rfl⟩
theorem Spl.few {K : PySem.W.Frag} {C : Addr} {H : Hp} {x : V} {S : List Nat} (h : Spl K C H x (some S)) : S.length ≤ 94 := by
  cases h with
  | set g => exact g.len
  | txt g => exact norm_len _
def runOk : Option (List Nat) → Option (Nat × Option Nat) → Option RunL
  | some [], _ => none
  | some (n :: S), some (l, m) => some (tx (n :: S), l, m)
  | _, _ => none
theorem bounds_some {K : PySem.W.Frag} {H : Hp} {y z : V} {a b : Bn} {l : Nat} {m : Option Nat} (h : boundsOk a b = some (l, m)) (ha : BnAt K H y a) (hb : BnAt K H z b) : y = .int (l : Nat) ∧ z = mostV m ∧ l ≤ 40 ∧ ∀ n, m = some n → l ≤ n ∧ n ≤ 40 := by
  cases a with
  | none => cases b <;> cases h
  | other => cases b <;> cases h
  | int i =>
    cases ha
    cases b with
    | other => cases h
    | none =>
      cases hb
      rw [bo_n] at h
      split at h
      · rename_i c
        have h := Option.some.inj h
        cases h
        exact ⟨by rw [Int.toNat_of_nonneg c.1], rfl, by omega, fun n z => by cases z⟩
      · cases h
    | int j =>
      cases hb
      rw [bo_i] at h
      split at h
      · rename_i c
        have h := Option.some.inj h
        cases h
        refine ⟨by rw [Int.toNat_of_nonneg c.1], ?_, by omega, fun n z => ?_⟩
        · show V.int j = V.int (j.toNat : Nat)
          rw [Int.toNat_of_nonneg (by omega)]
        · cases z
          omega
      · cases h
theorem tx_nil {S : List Nat} : (V.str (tx S) = V.str "") ↔ S = [] := by
  constructor
  · intro h
    have h2 : tx S = "" := V.str.inj h
    have h3 := congrArg (fun z : Str => z.cps.toList) h2
    have e : ("" : Str).cps.toList = [] := rfl
    rw [e] at h3
    simpa [tx] using h3
  · rintro rfl
    rfl
section
variable {P : Program} {w : World} {K : PySem.W.Frag} {mg : Str → Option Value} {base : Heap} {NC KC BK C : Addr}
/-- how Kind(..) is made -/
def CanKind (P : Program) (w : World) (K : PySem.W.Frag) (mg : Str → Option Value) (base : Heap) (NC KC BK : Addr) : Prop := ∃ f fd, Mk K KC f ∧ mg "Kind" = some (.ref KC) ∧ Binds K fd ["self", "rows"] [] ∧ FnOk P w K mg base (L2N.CX P w) 6 f fd ["self", "rows"] (spKInit NC KC BK)
def spRun (K : PySem.W.Frag) (NC KC BK C : Addr) : Sp := fun vs H Q E => ∃ (x y z : V) (S : Option (List Nat)) (a b : Bn), vs = [x, y, z] ∧ Spl K C H x S ∧ BnAt K H y a ∧ BnAt K H z b ∧
  (runOk S (boundsOk a b) = none → Raised H E BK) ∧ (∀ r, runOk S (boundsOk a b) = some r → ∀ (k : Addr) (H' : Hp), Same H H' → KindN KC NC H H' k [[r]] → Q (.ref k) H')
set_option maxHeartbeats 20000000 in
theorem ok_run {f : Addr} {fd : FuncData} (F : FunD K "run" "Kind.run" (defArgs s_Kindrun) (defBody s_Kindrun) (defScope s_Kindrun) [.int 1, .int 1] [] f fd) (PB : Plain K mg "BadKind" BK) (M : CanKind P w K mg base NC KC BK)
    (S : Can P w K mg base CX0 "is_signs" ["thing"] 2 (spSigns K C)) (B : Can P w K mg base CX0 "are_bounds" ["least", "most"] 3 (spBounds K)) (O : Can P w K mg base CX0 "signs_of" ["thing"] 4 (spOf C)) : FnOk P w K mg base (L2N.CX P w) 8 f fd ["signs", "least", "most"] (spRun K NC KC BK C) := by
  obtain ⟨fS, fdS, GS, gS, kS, bS⟩ := S
  obtain ⟨fB, fdB, GB, gB, kB, bB⟩ := B
  obtain ⟨fO, fdO, GO, gO, kO, bO⟩ := O
  obtain ⟨fM, fdM, MM, gM, bM, GM⟩ := M
  have nd := sc_Kindrun.nd
  refine F.ok sc_Kindrun (fun vs H Q E h => ?_) (fun cdv A outer s H vs Q E hr h => ?_)
  · obtain ⟨x, y, z, S, a, b, rfl, _⟩ := h
    rfl
  · obtain ⟨x, y, z, S, a, b, rfl, hx, ha, hb, out, q⟩ := h
    have tk := L2N.takes_of (X := cxOf (L2N.CX P w) P w K mg base ["signs", "least", "most", "spelling"] "Kind.run" (defScope s_Kindrun) f cdv A outer s H E) (E := E) rfl rfl rfl rfl
    refine ⟨_, pss_cons (ps_if (PW.pt (pw_or (pt_not (pt_val (pe_call GS (hr.mono (by decide)) (by rfl) gS kS bS .nil pass0 (pa_cons (pv 0) pa_nil)))) (pw_or1 (pt_not (pt_val (pe_call GB (hr.mono (by decide)) (by rfl) gB kB bB .nil pass0 (pa_cons (pv 1) (pa_cons (pv 2) pa_nil)))))))) (pss_one (L2N.ps_raise rfl tk (pmk_plain PB rfl))) pss_nil)
      (pss_cons (ps_set (i := 3) nd rfl (.inl rfl) (pe_call GO (hr.mono (by decide)) (by rfl) gO kO bO .nil pass0 (pa_cons (pv 0) pa_nil)))
      (pss_cons (ps_if (pt_cmpR op_eq (pv 3) pe_str (nomark _)) (pss_one (L2N.ps_raise rfl tk (pmk_plain PB rfl))) pss_nil)
      (pss_one (ps_ret (pe_make MM GM hr (by rfl) gM bM .nil (L2N.passes_call tk (fun _ _ _ _ h => h)) (pa_cons (pe_lst (pa_cons (pe_tup (pa_cons (pe_tup (pa_cons (pv 3) (pa_cons (pv 1) (pa_cons (pv 2) pa_nil)))) pa_nil)) pa_nil)) pa_nil)))))), ?_⟩
    refine ⟨_, rfl, x, _, rfl, hx.ask, fun H1 s1 => ⟨_, rfl, ?_⟩⟩
    cases S with
    | none => exact iteT (out (by cases boundsOk a b <;> rfl) H1 s1)
    | some S =>
      refine iteF ?_
      refine ⟨_, rfl, _, rfl, y, z, a, b, rfl, ha.same s1, hb.same s1, _, rfl, ?_⟩
      cases hbo : boundsOk a b with
      | none =>
        rw [hbo] at out
        exact iteT (out (by cases S <;> rfl) H1 s1)
      | some lm =>
        obtain ⟨l, m⟩ := lm
        refine iteF ?_
        refine ⟨_, rfl, x, S, rfl, (hx.same s1).opd, fun H2 s2 => ?_⟩
        refine name_go ?_
        dsimp only
        have s02 := s1.trans s2
        refine ⟨_, rfl, rfl, _, rfl, ?_⟩
        obtain ⟨rfl, rfl, l40, mb⟩ := bounds_some hbo ha hb
        by_cases hS : S = []
        · subst hS
          refine (if_pos (decide_eq_true (tx_nil.mpr rfl))).mpr ?_
          rw [hbo] at out
          exact out rfl H2 s02
        · refine (if_neg (fun y => hS (tx_nil.mp (of_decide_eq_true y)))).mpr ?_
          have er : runOk (some S) (boundsOk a b) = some (tx S, l, m) := by
            rw [hbo]
            cases S with
            | nil => exact absurd rfl hS
            | cons n S => rfl
          have q := q _ er
          show _
          refine ⟨_, rfl, _, rfl, _, rfl, line_small (by show 3 ≤ 16777216; decide), fun p1 n1 => ?_⟩
          refine ⟨line_small (by show 1 ≤ 16777216; decide), fun p2 n2 => ?_⟩
          refine ⟨line_small (by show 1 ≤ 16777216; decide), fun p3 n3 => ?_⟩
          have k1 := same_new (o := .tup [.str (tx S), .int (l : Nat), mostV m]) n1
          have k2 := same_new (o := .tup [.ref p1]) n2
          have k3 := same_new (o := .lst [.ref p2]) n3
          have k := k1.trans (k2.trans k3)
          have e1 := k3 _ _ (k2 _ _ (upd_same (H := H2) (a := p1) (o := .tup [.str (tx S), .int (l : Nat), mostV m])))
          have e2 := k3 _ _ (upd_same (H := upd H2 p1 (.tup [.str (tx S), .int (l : Nat), mostV m])) (a := p2) (o := .tup [.ref p1]))
          have row := row_is (bs := [((tx S, l, m), p1)]) e2 (fun x hx => by rw [List.mem_singleton.mp hx]; exact e1)
          have pl : pcL l m ≤ 40 := by
            cases m with
            | none => exact Nat.max_le.mpr ⟨l40, by decide⟩
            | some n => exact (mb n rfl).2
          have okr : RunOk (tx S, l, m) := ⟨by show (tx S).cps.size ≤ 1000; simp only [tx, List.size_toArray]; have := hx.few; omega, fun n e => (mb n e).1, by show pcL l m ≤ 500; omega⟩
          refine make_kind (rs := [([(tx S, l, m)], p2)]) (.inl upd_same) (fun x hx => by rw [List.mem_singleton.mp hx]; exact row) (by show 1 ≤ 1000; decide) (fun x hx r hr => by
            rw [List.mem_singleton.mp hx] at hr
            rw [List.mem_singleton.mp hr]
            exact okr) ⟨fun big => ?_, fun _ kk H' s3 at_ => q kk H' ((s02.trans k).trans s3) (at_.from (s02.trans k))⟩
          exfalso
          have no : bigL (onceL [[(tx S, l, m)]]) = false := by
            show (decide (20 < 1) || (([[(tx S, l, m)]] : List RowL).any fun r => decide (20 < r.length)) || decide (120 < (([[(tx S, l, m)]] : List RowL).flatMap placesR).sum)) = false
            have es : (([[(tx S, l, m)]] : List RowL).flatMap placesR).sum = pcL l m := by
              unfold placesR pcR
              simp
            rw [es, decide_eq_false (show ¬ 120 < pcL l m by omega)]
            rfl
          have big2 : bigL (onceL [[(tx S, l, m)]]) = true := big
          rw [no] at big2
          cases big2
end
end K14

set_option autoImplicit false
set_option maxErrors 4
/-! Data that stand stay data. -/
namespace Tl
open PySem PySem.Spec PyProof.Rows L2
variable {K : PySem.W.Frag} {H H' : Hp}
theorem rd_same {a : Addr} {u : HO} (h : Rd H a u) (s : Same H H') : Rd H' a u := h.imp (fun e => s _ _ e) fun ⟨o, e⟩ => ⟨o, s _ _ e⟩
theorem sqL_same {a : Addr} {xs : List V} (h : SqL K H a xs) (s : Same H H') : SqL K H' a xs := h.imp (fun r => rd_same r s) id
theorem sqT_same {a : Addr} {xs : List V} (h : SqT K H a xs) (s : Same H H') : SqT K H' a xs := h.imp (fun r => rd_same r s) id
mutual
theorem dp_same (s : Same H H') : ∀ (d : PyData) (v : V), Dp K H v d → Dp K H' v d
  | .none, _, h => by
    cases h
    exact .non
  | .bool b, _, h => by
    cases h
    exact .bl b
  | .int i, _, h => by
    cases h
    exact .int i
  | .str z, _, h => by
    cases h
    exact .str z
  | .list ds, _, h => by
    cases h with
    | lst e all => exact .lst (sqL_same e s) (dp_sameA s ds _ all)
  | .tuple ds, _, h => by
    cases h with
    | tup e all => exact .tup (sqT_same e s) (dp_sameA s ds _ all)
  | .dict _, _, h => by cases h
theorem dp_sameA (s : Same H H') : ∀ (ds : List PyData) (vs : List V), DpAll K H vs ds → DpAll K H' vs ds
  | [], _, h => by
    cases h
    exact .nil
  | d :: ds, _, h => by
    cases h with
    | cons a b => exact .cons (dp_same s d _ a) (dp_sameA s ds _ b)
end
end Tl

set_option autoImplicit false
set_option maxErrors 4
namespace K14
open PySem PySem.Spec PyProof.Rows L2 Tl
/-! ### alternatives as data -/
def mostD (m : Option Nat) : PyData := m.elim .none fun n => .int (n : Nat)
def runD (r : RunL) : PyData := .tuple [.str r.1, .int (r.2.1 : Nat), mostD r.2.2]
def rowD (r : RowL) : PyData := .tuple (r.map runD)
def rowsD (rs : List RowL) : PyData := .tuple (rs.map rowD)
theorem most_dp {K : PySem.W.Frag} {H : Hp} (m : Option Nat) : Dp K H (mostV m) (mostD m) := by
  cases m with
  | none => exact .non
  | some n => exact .int _
theorem run_dp {K : PySem.W.Frag} {H : Hp} {b : Addr} {r : RunL} (h : RunAt H b r) : Dp K H (.ref b) (runD r) := .tup (SqT.of h) (.cons (.str _) (.cons (.int _) (.cons (most_dp _) .nil)))
theorem runs_dp {K : PySem.W.Frag} {H : Hp} : ∀ {bs : Rns}, (∀ x ∈ bs, RunAt H x.2 x.1) → DpAll K H (runsV bs) ((bs.map (·.1)).map runD)
  | [], _ => .nil
  | x :: bs, h => .cons (run_dp (h x List.mem_cons_self)) (runs_dp fun y hy => h y (List.mem_cons_of_mem _ hy))
theorem row_dp {K : PySem.W.Frag} {H : Hp} {r : RowL} {a : Addr} (h : NkV H (rowK r) (.ref a)) : Dp K H (.ref a) (rowD r) := by
  obtain ⟨bs, e1, e2, e3⟩ := row_at h
  subst e1
  exact .tup (SqT.of e2) (runs_dp e3)
theorem rows_dp {K : PySem.W.Frag} {H : Hp} : ∀ {rs : Rws}, RowsAt H rs → DpAll K H (rowsV rs) ((rs.map (·.1)).map rowD)
  | [], _ => .nil
  | x :: rs, h => .cons (row_dp (h x List.mem_cons_self)) (rows_dp fun y hy => h y (List.mem_cons_of_mem _ hy))
theorem eqvAll_inj {α : Type} [DecidableEq α] {f : α → PyData} (h : ∀ x y, PyData.eqv (f x) (f y) = decide (x = y)) : ∀ l k : List α, PyData.eqvAll (l.map f) (k.map f) = decide (l = k)
  | [], [] => by simp [PyData.eqvAll]
  | [], y :: k => by simp [PyData.eqvAll]
  | x :: l, [] => by simp [PyData.eqvAll]
  | x :: l, y :: k => by
    rw [List.map_cons, List.map_cons, PyData.eqvAll, h x y, eqvAll_inj h l k]
    simp
theorem eqv_most (a b : Option Nat) : PyData.eqv (mostD a) (mostD b) = decide (a = b) := by
  cases a with
  | none => cases b <;> simp [mostD, PyData.eqv]
  | some a =>
    cases b with
    | none => simp [mostD, PyData.eqv]
    | some b =>
      show ((a : Int) == (b : Int)) = decide (some a = some b)
      rw [Bool.eq_iff_iff, beq_iff_eq, decide_eq_true_eq]
      constructor
      · intro h
        rw [Int.ofNat.inj h]
      · intro h
        cases h
        rfl
theorem eqv_run (a b : RunL) : PyData.eqv (runD a) (runD b) = decide (a = b) := by
  obtain ⟨a1, a2, a3⟩ := a
  obtain ⟨b1, b2, b3⟩ := b
  unfold runD
  simp only [PyData.eqv, PyData.eqvAll, eqv_most]
  rw [Bool.eq_iff_iff]
  simp
  intro _ _
  constructor <;> intro h <;> omega
theorem eqv_row (a b : RowL) : PyData.eqv (rowD a) (rowD b) = decide (a = b) := by
  unfold rowD
  rw [PyData.eqv, eqvAll_inj eqv_run]
theorem eqv_rows (a b : List RowL) : PyData.eqv (rowsD a) (rowsD b) = decide (a = b) := by
  unfold rowsD
  rw [PyData.eqv, eqvAll_inj eqv_row]
/-- the texts of the runs can be read -/
def TxR (r : RowL) : Prop := ∀ x ∈ r, PyData.strOk x.1 = true
theorem runD_ok {x : RunL} (h : PyData.strOk x.1 = true) : (runD x).canLay0 = true ∧ (runD x).depth ≤ 2 := by
  obtain ⟨a, b, c⟩ := x
  cases c <;> simp [runD, mostD, PyData.canLay0, PyData.canLayAll0, PyData.depth, PyData.depthAll] <;> exact h
theorem all_ok {α : Type} {f : α → PyData} {n : Nat} : ∀ {l : List α}, (∀ x ∈ l, (f x).canLay0 = true ∧ (f x).depth ≤ n) → PyData.canLayAll0 (l.map f) = true ∧ PyData.depthAll (l.map f) ≤ n
  | [], _ => ⟨by simp [PyData.canLayAll0], by simp [PyData.depthAll]⟩
  | x :: l, h => by
    obtain ⟨a, b⟩ := h x List.mem_cons_self
    obtain ⟨c, d⟩ := all_ok fun y hy => h y (List.mem_cons_of_mem _ hy)
    refine ⟨?_, ?_⟩
    · rw [List.map_cons, PyData.canLayAll0, a, c]
      rfl
    · rw [List.map_cons, PyData.depthAll]
      omega
theorem rowD_ok {r : RowL} (h : TxR r) : (rowD r).canLay0 = true ∧ (rowD r).depth ≤ 3 := by
  obtain ⟨a, b⟩ := all_ok (f := runD) (n := 2) fun x hx => runD_ok (h x hx)
  unfold rowD
  refine ⟨by rw [PyData.canLay0]; exact a, by rw [PyData.depth]; omega⟩
theorem rowsD_ok {rs : List RowL} (h : ∀ r ∈ rs, TxR r) : (rowsD rs).canLay0 = true ∧ (rowsD rs).depth ≤ 4 := by
  obtain ⟨a, b⟩ := all_ok (f := rowD) (n := 3) fun x hx => rowD_ok (h x hx)
  unfold rowsD
  refine ⟨by rw [PyData.canLay0]; exact a, by rw [PyData.depth]; omega⟩
theorem shaped_of {d : PyData} {n : Nat} (h : d.canLay0 = true ∧ d.depth ≤ n) (hn : n ≤ 64) : SeqAt.shaped d = true := by
  unfold SeqAt.shaped
  rw [h.1, Bool.true_and]
  exact decide_eq_true (by omega)
theorem listD_ok {rs : List RowL} (h : ∀ r ∈ rs, TxR r) : SeqAt.shaped (.list (rs.map rowD)) = true := by
  obtain ⟨a, b⟩ := all_ok (f := rowD) (n := 3) fun x hx => rowD_ok (h x hx)
  refine shaped_of (n := 4) ⟨by rw [PyData.canLay0]; exact a, by rw [PyData.depth]; omega⟩ (by decide)
/-! ### the operators, as they are reckoned -/
def prodL (a b : List RowL) : List RowL := a.flatMap fun x => b.map fun y => x ++ y
theorem prodL_len (a b : List RowL) : (prodL a b).length = a.length * b.length := by
  unfold prodL
  induction a with
  | nil => simp
  | cons x r ih =>
    rw [List.flatMap_cons, List.length_append, List.length_map, ih, List.length_cons, Nat.succ_mul]
    omega
theorem prodL_mem {a b : List RowL} {r : RowL} (h : r ∈ prodL a b) : ∃ x ∈ a, ∃ y ∈ b, r = x ++ y := by
  unfold prodL at h
  obtain ⟨x, hx, h⟩ := List.mem_flatMap.mp h
  obtain ⟨y, hy, e⟩ := List.mem_map.mp h
  exact ⟨x, hx, y, hy, e.symm⟩
theorem onceL_ne {rows : List RowL} (h : rows ≠ []) : onceL rows ≠ [] := by
  have key : ∀ (xs acc : List RowL), acc ≠ [] → xs.foldl putL acc ≠ [] := by
    intro xs
    induction xs with
    | nil => exact fun _ h => h
    | cons x xs ih =>
      intro acc h
      refine ih _ ?_
      unfold putL
      split
      · exact h
      · simp
  cases rows with
  | nil => exact absurd rfl h
  | cons x r => exact key r _ (by unfold putL; simp)
/-- the alternatives of a kind -/
structure Fine (rows : List RowL) : Prop where
  big : bigL rows = false
  ne : rows ≠ []
  ok : ∀ r ∈ rows, r ≠ [] ∧ ∀ x ∈ r, RunOk x
theorem Fine.len {rows : List RowL} (h : Fine rows) : rows.length ≤ 20 := by
  have z := h.big
  unfold bigL at z
  rw [Bool.or_eq_false_iff, Bool.or_eq_false_iff] at z
  have := of_decide_eq_false z.1.1
  omega
theorem Fine.row {rows : List RowL} (h : Fine rows) {r : RowL} (m : r ∈ rows) : r.length ≤ 20 := by
  have z := h.big
  unfold bigL at z
  rw [Bool.or_eq_false_iff, Bool.or_eq_false_iff] at z
  have y := List.any_eq_false.mp z.1.2 r m
  simp only [decide_eq_true_eq] at y
  omega
theorem fine_prod {a b : List RowL} (ha : Fine a) (hb : Fine b) (small : bigL (onceL (prodL a b)) = false) : Fine (onceL (prodL a b)) := by
  refine ⟨small, onceL_ne ?_, fun r m => ?_⟩
  · intro e
    have z := congrArg List.length e
    rw [prodL_len] at z
    have h1 : 0 < a.length := List.length_pos_iff.mpr ha.ne
    have h2 : 0 < b.length := List.length_pos_iff.mpr hb.ne
    have := Nat.mul_pos h1 h2
    simp at z
    omega
  · obtain ⟨x, hx, y, hy, rfl⟩ := prodL_mem (onceL_sub r m)
    refine ⟨by simp [(ha.ok x hx).1], fun u hu => (List.mem_append.mp hu).elim ((ha.ok x hx).2 u) ((hb.ok y hy).2 u)⟩
def powM (ra : List RowL) : Nat → Option (List RowL)
  | 0 => some ra
  | i + 1 => (powM ra i).bind fun w => if bigL (onceL (prodL w ra)) = true then none else some (onceL (prodL w ra))
theorem powM_none {ra : List RowL} {i j : Nat} (h : powM ra i = none) (le : i ≤ j) : powM ra j = none := by
  induction le with
  | refl => exact h
  | step _ ih =>
    unfold powM
    rw [ih]
    rfl
theorem Out.same {KC NC BK : Addr} {H H' : Hp} {Q : VK} {E : XK} {rows : List RowL} (o : Out KC NC BK H Q E rows) (s : Same H H') : Out KC NC BK H' Q E rows := ⟨fun b H2 s2 => o.1 b H2 (s.trans s2), fun b k H2 s2 kk => o.2 b k H2 (s.trans s2) (kk.from s)⟩
section
variable {P : Program} {w : World} {K : PySem.W.Frag} {mg : Str → Option Value} {base : Heap} {NC KC BK C : Addr}
def spTwo (KC NC BK : Addr) (f : List RowL → List RowL → List RowL) : Sp := fun vs H Q E => ∃ (a b : Addr) (ra rb : List RowL), vs = [.ref a, .ref b] ∧ KindL KC H a ra ∧ KindL KC H b rb ∧ Fine ra ∧ Fine rb ∧ Out KC NC BK H Q E (f ra rb)
set_option maxHeartbeats 20000000 in
theorem ok_add {f : Addr} {fd : FuncData} (F : FnP K "__add__" "Kind.__add__" s_Kind_add_ f fd) (T : KindC K KC) (M : CanKind P w K mg base NC KC BK) : FnOk P w K mg base (L2N.CX P w) 8 f fd ["self", "other"] (spTwo KC NC BK prodL) := by
  obtain ⟨fM, fdM, MM, gM, bM, GM⟩ := M
  have nd := sc_Kind_add_.nd
  refine F.ok sc_Kind_add_ (fun vs H Q E h => ?_) (fun cdv A outer s H vs Q E hr h => ?_)
  · obtain ⟨a, b, ra, rb, rfl, _⟩ := h
    rfl
  · obtain ⟨a, b, ra, rb, rfl, ka, kb, fa, fb, out⟩ := h
    have tk := L2N.takes_of (X := cxOf (L2N.CX P w) P w K mg base ["self", "other", "first", "second"] "Kind.__add__" (defScope s_Kind_add_) f cdv A outer s H E) (E := E) rfl rfl rfl rfl
    refine ⟨_, pss_one (ps_ret (pe_make MM GM hr (by rfl) gM bM .nil (L2N.passes_call tk (fun _ _ _ _ h => h)) (pa_cons (pe_lc2 (own := [("first", 2), ("second", 3)]) (vs1 := [3]) (g := gName 2) (tt := tYes) (wi1 := iTup K (tFld K (tVar 1) "rows")) (g1 := gName 3) (tt1 := tYes) rfl nd (pi_tup (pe_fld (pv 0) rfl))
      (blkOk_by (N := ["self", "other", "first", "second"]) (sc := defScope s_Kind_add_) (by decide +kernel)) (by decide) (fun _ _ _ _ _ => pg_name (i := 2) nd rfl (Or.inl rfl)) (fun _ _ _ _ _ => pts_nil) (fun _ _ _ _ _ => pi_tup (pe_fld (pv 1) rfl)) (fun _ _ _ _ _ => pg_name (i := 3) nd rfl (Or.inl rfl)) (fun _ _ _ _ _ => pts_nil)
      (fun _ _ _ _ _ => pe_op (r := rCatT K) op_catT (pv 2) (pv 3))) pa_nil))), ?_⟩
    have la := fa.len
    have lb := fb.len
    obtain ⟨dxa, ta, na, rsa, a1, a2, rfl, a4⟩ := ka
    obtain ⟨dxb, tb, nb, rsb, b1, b2, rfl, b4⟩ := kb
    rw [List.length_map] at la lb
    have lenA : (rowsV rsa).length = rsa.length := List.length_map _
    have lenB : (rowsV rsb).length = rsb.length := List.length_map _
    refine ⟨_, rfl, a, KC, dxa, _, _, rfl, a1, T.cl, T.n1, lk_hit, ta, rfl, ⟨_, SqT.of a2⟩, fun D hD => ?_⟩
    have tupsD : ∀ {H3 : Hp} {o u : HO}, H3 D = some (.lst (rowsV [])) ∨ (∃ xs, H3 D = some (.lst xs)) → ∀ c xs, H3 c = some (.tup xs) → upd H3 D u c = some (.tup xs) := fun {H3 o u} hd c xs z => by
      by_cases e : c = D
      · rcases hd with hd | ⟨ys, hd⟩ <;> rw [e, hd] at z <;> cases z
      · rw [upd_ne e]
        exact z
    refine out_it (n := rsa.length) (by rw [← lenA]; exact walk_tup) (fun i H' => ∃ acc : Rws, H' D = some (.lst (rowsV acc)) ∧ acc.map (·.1) = prodL ((rsa.map (·.1)).take i) (rsb.map (·.1)) ∧ RowsAt H' acc ∧ Same H H') ⟨[], upd_same, rfl, (fun x hx => by cases hx), same_new hD⟩ (fun i H' _ h => by
      obtain ⟨_, _, _, _, sm⟩ := h
      exact SqT.of (sm _ _ a2)) ?_ ?_
    · rintro i x _ H2 hi ⟨acc, e, em, rat, sm⟩ ⟨rfl, hx⟩
      have ex : x = .ref rsa[i].2 := by
        unfold rowsV at hx
        rw [List.getElem?_map, List.getElem?_eq_getElem hi] at hx
        exact (Option.some.inj hx).symm
      subst ex
      refine ⟨rfl, yes_keep ?_⟩
      refine ⟨_, rfl, b, KC, dxb, _, _, rfl, sm _ _ b1, T.cl, T.n1, lk_hit, tb, rfl, ⟨_, SqT.of (sm _ _ b2)⟩, ?_⟩
      refine in_it (n := rsb.length) (by rw [← lenB]; exact walk_tup) (fun j H' => ∃ acc : Rws, H' D = some (.lst (rowsV acc)) ∧ acc.map (·.1) = prodL ((rsa.map (·.1)).take i) (rsb.map (·.1)) ++ ((rsb.map (·.1)).take j).map (fun y => rsa[i].1 ++ y) ∧ RowsAt H' acc ∧ Same H H') ⟨acc, e, by rw [List.take_zero, List.map_nil, List.append_nil]; exact em, rat, sm⟩ (fun j H' _ h => by
        obtain ⟨_, _, _, _, sm⟩ := h
        exact SqT.of (sm _ _ b2)) ?_ ?_
      · rintro j y _ H3 hj ⟨acc, e, em, rat, sm⟩ ⟨rfl, hy⟩
        have ey : y = .ref rsb[j].2 := by
          unfold rowsV at hy
          rw [List.getElem?_map, List.getElem?_eq_getElem hj] at hy
          exact (Option.some.inj hy).symm
        subst ey
        have mi : rsa[i].1 ∈ rsa.map (·.1) := List.mem_map.mpr ⟨_, List.getElem_mem hi, rfl⟩
        have mj : rsb[j].1 ∈ rsb.map (·.1) := List.mem_map.mpr ⟨_, List.getElem_mem hj, rfl⟩
        obtain ⟨bs1, x1, x2, x3⟩ := row_at ((a4.same sm) _ (List.getElem_mem hi))
        obtain ⟨bs2, y1, y2, y3⟩ := row_at ((b4.same sm) _ (List.getElem_mem hj))
        have n1 : bs1.length = rsa[i].1.length := by rw [← x1, List.length_map]
        have n2 : bs2.length = rsb[j].1.length := by rw [← y1, List.length_map]
        have v1 : (runsV bs1).length = bs1.length := List.length_map _
        have v2 : (runsV bs2).length = bs2.length := List.length_map _
        have w1 := fa.row mi
        have w2 := fb.row mj
        have p1 : 0 < rsa[i].1.length := List.length_pos_iff.mpr (fa.ok _ mi).1
        have p2 : 0 < rsb[j].1.length := List.length_pos_iff.mpr (fb.ok _ mj).1
        refine ⟨rfl, yes_keep ?_⟩
        refine ⟨_, rfl, _, rfl, _, _, runsV bs1, runsV bs2, rfl, rfl, SqT.of x2, SqT.of y2, (fun z => by rw [z] at v1; simp at v1; omega), line_small (by omega), (fun z => by rw [z] at v2; simp at v2; omega), fun _ p hp => ?_⟩
        have k1 := same_new (o := .tup (runsV bs1 ++ runsV bs2)) hp
        have eD := k1 _ _ e
        have rv : runsV bs1 ++ runsV bs2 = runsV (bs1 ++ bs2) := by
          unfold runsV
          rw [List.map_append]
        have nk : NkV (upd H3 p (.tup (runsV bs1 ++ runsV bs2))) (rowK (rsa[i].1 ++ rsb[j].1)) (.ref p) := by
          have z := row_is (H := upd H3 p (.tup (runsV bs1 ++ runsV bs2))) (a := p) (bs := bs1 ++ bs2) (by rw [upd_same, rv]) (fun x hx => (List.mem_append.mp hx).elim (fun h => k1 _ _ (x3 x h)) fun h => k1 _ _ (y3 x h))
          rw [List.map_append, x1, y1] at z
          exact z
        have la2 : acc.length = (i * rsb.length + j) := by
          have z := congrArg List.length em
          simp only [List.length_map, List.length_append, prodL_len, List.length_take] at z
          rw [Nat.min_eq_left (show i ≤ rsa.length by omega), Nat.min_eq_left (show j ≤ rsb.length by omega)] at z
          exact z
        have bound : i * rsb.length ≤ 20 * 20 := Nat.mul_le_mul (by omega) (by omega)
        refine ⟨_, eD, ?_, acc ++ [(rsa[i].1 ++ rsb[j].1, p)], ?_, ?_, ?_, fun c o z => ?_⟩
        · unfold rowsV
          rw [List.length_map]
          exact small1000 (by omega)
        · rw [upd_same]
          unfold rowsV
          rw [List.map_append]
          rfl
        · rw [List.map_append, em, List.take_add_one, List.getElem?_map, List.getElem?_eq_getElem hj, List.map_append, List.append_assoc]
          rfl
        · intro u hu
          have tp : ∀ c xs, (upd H3 p (.tup (runsV bs1 ++ runsV bs2))) c = some (.tup xs) → (upd (upd H3 p (.tup (runsV bs1 ++ runsV bs2))) D (.lst (rowsV acc ++ [.ref p]))) c = some (.tup xs) := tupsD (o := .lst []) (.inr ⟨_, eD⟩)
          rcases List.mem_append.mp hu with hu | hu
          · exact nkT tp _ _ ((rat.same k1) u hu)
          · rw [List.mem_singleton.mp hu]
            exact nkT tp _ _ nk
        · rw [upd_ne (ne_of_none z hD)]
          exact k1 _ _ (sm _ _ z)
      · rintro H3 ⟨acc, e, em, rat, sm⟩
        refine ⟨acc, e, ?_, rat, sm⟩
        rw [em]
        have et : (rsb.map (·.1)).take rsb.length = rsb.map (·.1) := List.take_of_length_le (by rw [List.length_map]; exact Nat.le_refl _)
        rw [et]
        unfold prodL
        rw [List.take_add_one, List.getElem?_map, List.getElem?_eq_getElem hi, List.flatMap_append]
        simp
    · rintro H2 ⟨acc, e, em, rat, sm⟩
      have et : (rsa.map (·.1)).take rsa.length = rsa.map (·.1) := List.take_of_length_le (by rw [List.length_map]; exact Nat.le_refl _)
      rw [et] at em
      have la2 : acc.length = rsa.length * rsb.length := by
        have z := congrArg List.length em
        rw [List.length_map, prodL_len, List.length_map, List.length_map] at z
        exact z
      have bound : rsa.length * rsb.length ≤ 20 * 20 := Nat.mul_le_mul la lb
      refine make_kind (.inl e) rat (by omega) (fun x hx r hr => ?_) (by rw [em]; exact out.same sm)
      have mx : x.1 ∈ prodL (rsa.map (·.1)) (rsb.map (·.1)) := by
        rw [← em]
        exact List.mem_map.mpr ⟨x, hx, rfl⟩
      obtain ⟨u, hu, v, hv, e2⟩ := prodL_mem mx
      rw [e2] at hr
      exact (List.mem_append.mp hr).elim ((fa.ok u hu).2 r) ((fb.ok v hv).2 r)
end
end K14

set_option autoImplicit false
set_option maxErrors 4
namespace K14
open PySem PySem.Spec PyProof.Rows L2 Tl
/-! ### |, *, == of kinds -/
section
variable {P : Program} {w : World} {K : PySem.W.Frag} {mg : Str → Option Value} {base : Heap} {NC KC BK C : Addr}
def orL (a b : List RowL) : List RowL := a ++ b
theorem ok_or {f : Addr} {fd : FuncData} (F : FnP K "__or__" "Kind.__or__" s_Kind_or_ f fd) (N : Nms mg) (T : KindC K KC) (Se : Sees K KC) (gC : mg "Signs" = some (.ref C)) (off : PySem.W.kitOne K (.ref KC) (.ref C) = some false) (M : CanKind P w K mg base NC KC BK) : FnOk P w K mg base (L2N.CX P w) 8 f fd ["self", "other"] (spTwo KC NC BK orL) := by
  obtain ⟨fM, fdM, MM, gM, bM, GM⟩ := M
  refine F.ok sc_Kind_or_ (fun vs H Q E h => ?_) (fun cdv A outer s H vs Q E hr h => ?_)
  · obtain ⟨a, b, ra, rb, rfl, _⟩ := h
    rfl
  · obtain ⟨a, b, ra, rb, rfl, ka, kb, fa, fb, out⟩ := h
    have tk := L2N.takes_of (X := cxOf (L2N.CX P w) P w K mg base ["self", "other"] "Kind.__or__" (defScope s_Kind_or_) f cdv A outer s H E) (E := E) rfl rfl rfl rfl
    refine ⟨_, pss_cons (ps_if (pt_val (pe_callB call_isi (by rfl) N.isi (by decide +kernel) (pa_cons (pv 1) (pa_cons (pe_glob (v := .ref C) rfl gC rfl) pa_nil)))) (pss_one ps_never) pss_nil) (pss_one (ps_ret (pe_make MM GM hr (by rfl) gM bM .nil (L2N.passes_call tk (fun _ _ _ _ h => h)) (pa_cons (pe_op op_catT (pe_fld (pv 0) rfl) (pe_fld (pv 1) rfl)) pa_nil)))), ?_⟩
    have la := fa.len
    have lb := fb.len
    have na0 := fa.ne
    have nb0 := fb.ne
    obtain ⟨dxa, ta, na, rsa, a1, a2, rfl, a4⟩ := ka
    obtain ⟨dxb, tb, nb, rsb, b1, b2, rfl, b4⟩ := kb
    rw [List.length_map] at la lb
    have lenA : (rowsV rsa).length = rsa.length := List.length_map _
    have lenB : (rowsV rsb).length = rsb.length := List.length_map _
    have neA : rowsV rsa ≠ [] := fun z => by
      rw [z] at lenA
      cases rsa with
      | nil => exact na0 rfl
      | cons x r => cases lenA
    have neB : rowsV rsb ≠ [] := fun z => by
      rw [z] at lenB
      cases rsb with
      | nil => exact nb0 rfl
      | cons x r => cases lenB
    refine ⟨_, rfl, _, _, _, _, false, rfl, .own C, Se.ty T.cl b1, off, ⟨_, rfl, iteF ?_⟩⟩
    refine ⟨_, rfl, a, KC, dxa, _, _, rfl, a1, T.cl, T.n1, lk_hit, _, rfl, b, KC, dxb, _, _, rfl, b1, T.cl, T.n1, lk_hit, ta, tb, _, _, rfl, rfl, SqT.of a2, SqT.of b2, neA, line_small (by omega), (fun z => absurd z neB), fun _ p hp => ?_⟩
    have k1 := same_new (o := .tup (rowsV rsa ++ rowsV rsb)) hp
    have rv : rowsV rsa ++ rowsV rsb = rowsV (rsa ++ rsb) := by
      unfold rowsV
      rw [List.map_append]
    refine make_kind (rs := rsa ++ rsb) (.inr (by rw [upd_same, rv])) (fun x hx => (List.mem_append.mp hx).elim ((a4.same k1) x) ((b4.same k1) x)) (by rw [List.length_append]; omega) (fun x hx r hr => ?_) ?_
    · rcases List.mem_append.mp hx with hx | hx
      · exact (fa.ok _ (List.mem_map.mpr ⟨x, hx, rfl⟩)).2 r hr
      · exact (fb.ok _ (List.mem_map.mpr ⟨x, hx, rfl⟩)).2 r hr
    · rw [List.map_append]
      exact out.same k1
end
end K14

set_option autoImplicit false
set_option maxErrors 4
namespace K14
open PySem PySem.Spec PyProof.Rows L2 Tl
/-! ### an ascending row of signs is told by its members -/
theorem sorted_sg : ∀ (ns : List Nat), sortedS (ns.map sg) = true → ns.Pairwise (· ≤ ·) := by
  have step : ∀ (ns : List Nat) (m : Nat), risingS (sg m) (ns.map sg) = true → (m :: ns).Pairwise (· ≤ ·) := by
    intro ns
    induction ns with
    | nil => intro m _; exact List.pairwise_singleton _ _
    | cons n ns ih =>
      intro m h
      have h2 : (!ltCps (sg n).cps.toList (sg m).cps.toList && risingS (sg n) (ns.map sg)) = true := h
      obtain ⟨h3, h4⟩ := Bool.and_eq_true_iff.mp h2
      have p := ih n h4
      have h5 : m ≤ n := by
        refine Nat.le_of_not_lt fun z => ?_
        have e : ltCps (sg n).cps.toList (sg m).cps.toList = true := by
          show ltCps [n] [m] = true
          simp [ltCps, z]
        rw [e] at h3
        cases h3
      refine List.pairwise_cons.mpr ⟨fun k hk => ?_, p⟩
      rcases List.mem_cons.mp hk with e | e
      · rw [e]
        exact h5
      · exact Nat.le_trans h5 ((List.pairwise_cons.mp p).1 k e)
  intro ns h
  cases ns with
  | nil => exact List.Pairwise.nil
  | cons n ns => exact step ns n h
theorem le_uniq : ∀ (l k : List Nat), l.Pairwise (· < ·) → k.Pairwise (· < ·) → (∀ n, n ∈ l ↔ n ∈ k) → l = k
  | [], [], _, _, _ => rfl
  | [], y :: k, _, _, h => absurd ((h y).2 List.mem_cons_self) (by simp)
  | x :: l, [], _, _, h => absurd ((h x).1 List.mem_cons_self) (by simp)
  | x :: l, y :: k, hl, hk, h => by
    obtain ⟨l1, l2⟩ := List.pairwise_cons.mp hl
    obtain ⟨k1, k2⟩ := List.pairwise_cons.mp hk
    have e : x = y := by
      have a := (h x).1 List.mem_cons_self
      have b := (h y).2 List.mem_cons_self
      rcases List.mem_cons.mp a with e | e
      · exact e
      · rcases List.mem_cons.mp b with f | f
        · exact f.symm
        · have := k1 x e
          have := l1 y f
          omega
    subst e
    have t : l = k := le_uniq l k l2 k2 fun n => by
      constructor
      · intro z
        rcases List.mem_cons.mp ((h n).1 (List.mem_cons_of_mem _ z)) with e | e
        · have := l1 n z
          omega
        · exact e
      · intro z
        rcases List.mem_cons.mp ((h n).2 (List.mem_cons_of_mem _ z)) with e | e
        · have := k1 n z
          omega
        · exact e
    rw [t]
theorem alpha_lt : alpha.Pairwise (· < ·) := by decide +kernel
theorem norm_lt (l : List Nat) : (norm l).Pairwise (· < ·) := List.Pairwise.filter _ alpha_lt
theorem once_eq {l : List Nat} (hl : ∀ n ∈ l, n ∈ alpha) {ys : List Str} (h1 : sortedS ys = true) (h2 : ys.Nodup) (h3 : ∀ z, z ∈ ys ↔ z ∈ l.map sg) : ys = (norm l).map sg := by
  have e : ∃ ns : List Nat, ys = ns.map sg := by
    have : ∀ zs : List Str, (∀ z ∈ zs, z ∈ l.map sg) → ∃ ns : List Nat, zs = ns.map sg := by
      intro zs
      induction zs with
      | nil => intro _; exact ⟨[], rfl⟩
      | cons z zs ih =>
        intro h
        obtain ⟨ns, e⟩ := ih fun y hy => h y (List.mem_cons_of_mem _ hy)
        obtain ⟨n, _, en⟩ := List.mem_map.mp (h z List.mem_cons_self)
        exact ⟨n :: ns, by rw [e, ← en]; rfl⟩
    exact this ys fun z hz => (h3 z).1 hz
  obtain ⟨ns, rfl⟩ := e
  have nd : ns.Nodup := List.Pairwise.of_map sg (fun _ _ hne e => hne (congrArg sg e)) h2
  have hle := sorted_sg ns h1
  have hlt : ns.Pairwise (· < ·) := by
    refine List.Pairwise.imp₂ (fun a b x y => Nat.lt_of_le_of_ne x y) hle nd
  have e : ns = norm l := le_uniq ns (norm l) hlt (norm_lt l) fun n => by
    rw [mem_norm hl]
    constructor
    · intro z
      obtain ⟨m, hm, e⟩ := List.mem_map.mp ((h3 (sg n)).1 (List.mem_map.mpr ⟨n, z, rfl⟩))
      rw [← sg_inj e]
      exact hm
    · intro z
      obtain ⟨m, hm, e⟩ := List.mem_map.mp ((h3 (sg n)).2 (List.mem_map.mpr ⟨n, z, rfl⟩))
      rw [← sg_inj e]
      exact hm
  rw [e]
theorem cut_take (xs : List V) (k : Nat) : cutV xs none (some (k : Int)) = xs.take k := by
  unfold cutV
  rw [HT.sIx_nat, HT.sIx_none, List.drop_zero, Nat.sub_zero]
  by_cases h : k ≤ xs.length
  · rw [Nat.min_eq_left h]
  · rw [Nat.min_eq_right (by omega), List.take_of_length_le (Nat.le_refl _), List.take_of_length_le (by omega)]
theorem cut_drop (xs : List V) (k : Nat) : cutV xs (some (k : Int)) none = xs.drop k := by
  unfold cutV
  rw [HT.sIx_nat, HT.sIx_none]
  by_cases h : k ≤ xs.length
  · rw [Nat.min_eq_left h]
    exact List.take_of_length_le (by rw [List.length_drop]; omega)
  · rw [Nat.min_eq_right (by omega), List.drop_of_length_le (show xs.length ≤ k by omega), List.drop_of_length_le (Nat.le_refl _), List.take_nil]
theorem Kept.of {b c : Addr} {H H' : Hp} (s : Same H H') : Kept b c H H' := fun x o e _ _ => s x o e
theorem Bag.same {b c : Addr} {H H' : Hp} (B : Bag H b c) (s : Same H H') : Bag H' b c := by
  obtain ⟨n, m, k, h1⟩ := B.top
  obtain ⟨ns, h2⟩ := B.cells
  exact ⟨⟨n, m, k, s _ _ h1⟩, ⟨ns, s _ _ h2⟩⟩
theorem Bag.neB {b c p : Addr} {H : Hp} (B : Bag H b c) (h : H p = none) : p ≠ b := fun z => by
  obtain ⟨n, m, k, e⟩ := B.top
  rw [z, e] at h
  cases h
theorem Bag.neC {b c p : Addr} {H : Hp} (B : Bag H b c) (h : H p = none) : p ≠ c := fun z => by
  obtain ⟨ns, e⟩ := B.cells
  rw [z, e] at h
  cases h
/-- new things stay new to what stood -/
theorem Kept.newD {b c D : Addr} {H0 H1 : Hp} {o : HO} (k : Kept b c H0 H1) (hD : H1 D = none) : Kept b c H0 (upd H1 D o) := fun x u e nb nc => by
  rw [upd_ne (ne_of_none (k x u e nb nc) hD)]
  exact k x u e nb nc
theorem kept_ins {b c : Addr} {H H' : Hp} (B : Bag H b c) (k : Kept b c H H') : ∀ a C dx fs, H a = some (.ins C dx fs) → H' a = some (.ins C dx fs) := fun a C dx fs e => by
  obtain ⟨n, m, j, h1⟩ := B.top
  obtain ⟨ns, h2⟩ := B.cells
  exact k a _ e (fun z => by rw [z, h1] at e; cases e) (fun z => by rw [z, h2] at e; cases e)
theorem kept_tup {b c : Addr} {H H' : Hp} (B : Bag H b c) (k : Kept b c H H') : ∀ a xs, H a = some (.tup xs) → H' a = some (.tup xs) := fun a xs e => by
  obtain ⟨n, m, j, h1⟩ := B.top
  obtain ⟨ns, h2⟩ := B.cells
  exact k a _ e (fun z => by rw [z, h1] at e; cases e) (fun z => by rw [z, h2] at e; cases e)
theorem pe_joinK {X : Cx} {K : PySem.W.Frag} {o e : Expr} {to te : TE} {apos pos : Pos} (eK : X.K = K) (ho : PE X o to) (he : PE X e te) (hs : starEach [e] X.env = [(false, eval e X.env)] := by rfl) (hbase : attributeBase o "join" X.env (eval o X.env) = eval o X.env := by rfl) (hline : (apos.endLine == pos.line) = true := by rfl) :
    PE X (.Call (.Attribute o "join" apos) [e] [] pos) (tM1 (rJoin K) to te) := by
  subst eK
  exact pe_join ho he hs hbase hline

theorem alpha_small : ∀ n ∈ alpha, n < 0x110000 := by decide +kernel
theorem tx_ok {l : List Nat} (h : ∀ n ∈ l, n ∈ alpha) : PyData.strOk (tx l) = true := by
  unfold PyData.strOk tx
  simp only [List.all_toArray, List.all_eq_true, decide_eq_true_eq]
  exact fun n hn => alpha_small n (h n hn)
/-- a drawn run -/
structure RunG (r : RunL) : Prop where
  tx : ∃ S, r.1 = tx S ∧ S ≠ [] ∧ norm S = S
  low : r.2.1 ≤ 40
  top : ∀ m, r.2.2 = some m → r.2.1 ≤ m ∧ 1 ≤ m ∧ m ≤ 40
theorem RunG.ok {r : RunL} (h : RunG r) : RunOk r := by
  obtain ⟨S, e, _, c⟩ := h.tx
  refine ⟨?_, fun n z => (h.top n z).1, ?_⟩
  · rw [e]
    show (Tl.tx S).cps.size ≤ 1000
    have z := norm_len S
    rw [c] at z
    simp only [Tl.tx, List.size_toArray]
    omega
  · unfold pcR pcL
    cases hm : r.2.2 with
    | none =>
      show Nat.max r.2.1 1 ≤ 500
      have := h.low
      exact Nat.max_le.mpr ⟨by omega, by decide⟩
    | some m =>
      have := (h.top m hm).2.2
      show m ≤ 500
      omega
theorem RunG.txok {r : RunL} (h : RunG r) : PyData.strOk r.1 = true := by
  obtain ⟨S, e, _, c⟩ := h.tx
  rw [e]
  exact tx_ok (by rw [← c]; exact norm_sub S)
section
variable {P : Program} {w : World} {K : PySem.W.Frag} {mg : Str → Option Value} {base : Heap} {NC KC BK C : Addr}
/-- what the code picks of two signs -/
def pick (ls : List Nat) (code i : Nat) : List Nat := ((List.range i).filter fun k => decide (code / 2 ^ k % 2 = 1)).map fun k => ls.getD k 0
def spSigns2 : Sp := fun vs H Q _ => ∃ (b c p : Addr) (ls : List Nat), vs = [.ref b, .ref p] ∧ Bag H b c ∧ H p = some (.lst (lettersV ls)) ∧ p ≠ b ∧ p ≠ c ∧ ls.length = 2 ∧ ls.Nodup ∧ (∀ n ∈ ls, n ∈ alpha) ∧ ∀ S H', Bag H' b c → Kept b c H H' → S ≠ [] → norm S = S → (∀ n ∈ S, n ∈ ls) → Q (.str (tx S)) H'
theorem pick_sub {ls : List Nat} {code : Nat} (hl : ls.length = 2) : ∀ n ∈ pick ls code 2, n ∈ ls := by
  intro n hn
  unfold pick at hn
  obtain ⟨k, hk, rfl⟩ := List.mem_map.mp hn
  have hk2 := List.mem_range.mp (List.mem_filter.mp hk).1
  rw [List.getD_eq_getElem?_getD, List.getElem?_eq_getElem (by omega)]
  exact List.getElem_mem _
theorem pick_nd {ls : List Nat} {code : Nat} (hl : ls.length = 2) (nd : ls.Nodup) : (pick ls code 2).Nodup := by
  match ls, hl with
  | [x, y], _ =>
    have hxy : x ≠ y := fun e => by
      subst e
      simp at nd
    unfold pick
    show (((([0, 1] : List Nat).filter fun k => decide (code / 2 ^ k % 2 = 1)).map fun k => [x, y].getD k 0)).Nodup
    generalize (fun k => decide (code / 2 ^ k % 2 = 1)) = p
    cases h0 : p 0 <;> cases h1 : p 1 <;> simp [List.filter, h0, h1, hxy]
theorem pick_ne {ls : List Nat} {code : Nat} (h1 : 1 ≤ code) (h3 : code ≤ 3) : pick ls code 2 ≠ [] := by
  have cs : code = 1 ∨ code = 2 ∨ code = 3 := by omega
  rcases cs with rfl | rfl | rfl <;> simp [pick, List.range, List.range.loop]
set_option maxHeartbeats 20000000 in
theorem ok_signs2 {f : Addr} {fd : FuncData} (F : FnP K "_law_signs" "_law_signs" s_l_signs f fd) (N : Nms mg) (D : Can P w K mg base CX0 "_law_draw" ["_law_bag_here", "_law_limit"] 1 spDraw) : FnOk P w K mg base CX0 2 f fd ["_law_bag_here", "_law_letters_here"] spSigns2 := by
  obtain ⟨fD, fdD, GD, gD, kD, bD⟩ := D
  have nd := sc_l_signs.nd
  refine F.ok sc_l_signs (fun vs H Q E h => ?_) (fun cdv A outer s H vs Q E hr h => ?_)
  · obtain ⟨b, c, p, ls, rfl, _⟩ := h
    rfl
  · obtain ⟨b, c, p, ls, rfl, B, hp, npb, npc, len, ndl, sub, q⟩ := h
    refine ⟨_, PSs.nox (pss_cons (ps_set (i := 2) nd rfl (by first | exact .inl rfl | exact .inr rfl) (pe_op op_add pe_int (pe_call GD hr (by rfl) gD kD bD .nil pass0 (pa_cons (pv 0) (pa_cons (pe_ix (r := rIxL K) ix_list (pe_lst (pa_cons pe_int (pa_cons pe_int (pa_cons pe_int (pa_cons pe_int pa_nil))))) (pe_op op_sub (pe_callB call_len_seq (by rfl) N.len PySem.boot_len (pa_cons (pv 1) pa_nil)) pe_int) (fun _ _ => rfl)) pa_nil)))))
      (pss_one (ps_ret (pe_joinK (K := K) rfl pe_str (pe_callB (r := rSortedS K) cr_sortedS (by rfl) N.sorted (by decide +kernel) (pa_cons (pe_lc (own := [("_law_k", 3)]) (g := gName 3) rfl nd (pi_range1 rfl N.range (pa_cons (pe_callB call_len_seq (by rfl) N.len PySem.boot_len (pa_cons (pv 1) pa_nil)) pa_nil))
          (blkOk_by (N := ["_law_bag_here", "_law_letters_here", "_law_code", "_law_k"]) (sc := defScope s_l_signs) (by decide +kernel)) (fun _ _ _ _ _ => pg_name (i := 3) nd rfl (Or.inl rfl))
          (fun _ _ _ _ _ => pts_one (pt_cmpR op_eq (pe_op op_mod (pe_callTy call_int1 (by rfl) N.int (by decide +kernel) (pa_cons (pe_op op_fdiv (pv 2) (pe_ix (r := rIxL K) ix_list (pe_lst (pa_cons pe_int (pa_cons pe_int (pa_cons pe_int (pa_cons pe_int pa_nil))))) (pv 3) (fun _ _ => rfl))) pa_nil)) pe_int) pe_int (nomark _)))
          (fun _ _ _ _ _ => pe_ix (r := rIxL K) ix_list (pv 1) (pv 3) (fun _ _ => rfl))) pa_nil)))))), ?_⟩
    have ll : (lettersV ls).length = 2 := by
      unfold lettersV
      rw [List.length_map, len]
    refine ⟨_, rfl, line_small (by show 4 ≤ 16777216; decide), fun l1 n1 => ?_⟩
    have k1 := same_new (o := .lst [.int 1, .int 3, .int 7, .int 15]) n1
    refine ⟨_, rfl, p, _, rfl, .inl (SqL.of (k1 _ _ hp)), ?_⟩
    rw [ll]
    refine ⟨_, _, rfl, rfl, l1, _, 1, .int 3, rfl, rfl, SqL.of upd_same, rfl, ?_⟩
    have B1 := B.same k1
    refine ⟨b, c, 3, rfl, B1, by decide, by decide, fun d H2 d0 d3 B2 K2 => ⟨_, _, rfl, rfl, ?_⟩⟩
    obtain ⟨d, rfl⟩ := Int.eq_ofNat_of_zero_le d0
    refine name_go ?_
    dsimp only
    have K02 : Kept b c H H2 := (Kept.of k1).trans K2
    have hp2 := K02 _ _ hp npb npc
    generalize hcode : 1 + d = code
    have ec : (1 : Int) + ((d : Nat) : Int) = ((code : Nat) : Int) := by omega
    rw [ec]
    refine ⟨⟨_, rfl⟩, _, rfl, p, _, rfl, .inl (SqL.of hp2), ?_⟩
    rw [ll]
    refine ⟨2, rfl, by decide, by decide, fun D hD => ?_⟩
    refine lc_range (lo := 0) (n := 2) (fun i H' => H' D = some (.lst (lettersV (pick ls code i))) ∧ Same H2 H') ⟨upd_same, same_new hD⟩ ?_ ?_
    · rintro i H3 hi ⟨e, sm⟩
      have ei : (0 : Int) + (i : Int) = ((i : Nat) : Int) := Int.zero_add _
      rw [ei]
      refine ⟨rfl, ?_⟩
      have fit : ∃ v : Nat, atI [V.int 1, V.int 2, V.int 4, V.int 8] ((i : Nat) : Int) = some (.int ((2 ^ i : Nat) : Int)) ∧ 0 < 2 ^ i ∧ 2 ^ i ≤ 8 := by
        have cs : i = 0 ∨ i = 1 := by omega
        rcases cs with rfl | rfl
        · exact ⟨0, rfl, by decide, by decide⟩
        · exact ⟨0, rfl, by decide, by decide⟩
      obtain ⟨_, fit, f0, f8⟩ := fit
      refine ⟨_, rfl, line_small (by show 4 ≤ 16777216; decide), fun l2 n2 => ?_⟩
      have k2 := same_new (o := .lst [.int 1, .int 2, .int 4, .int 8]) n2
      refine ⟨_, rfl, l2, _, _, _, rfl, rfl, SqL.of upd_same, fit, _, _, rfl, rfl, ⟨by omega, by omega⟩, .inl ⟨_, rfl, ?_⟩⟩
      refine ⟨_, _, rfl, rfl, (by show (0 : Int) < 2; decide), rfl, ?_⟩
      have eD := k2 _ _ e
      have get : (lettersV ls)[i]? = some (.str (sg (ls.getD i 0))) := by
        unfold lettersV
        rw [List.getElem?_map, List.getElem?_eq_getElem (by omega), List.getD_eq_getElem?_getD, List.getElem?_eq_getElem (by omega)]
        rfl
      have nx : pick ls code (i + 1) = pick ls code i ++ if code / 2 ^ i % 2 = 1 then [ls.getD i 0] else [] := by
        unfold pick
        rw [List.range_succ, List.filter_append, List.map_append]
        congr 1
        by_cases z : code / 2 ^ i % 2 = 1 <;> simp [z]
      have vd : decide (V.int ((code : Int) / ((2 ^ i : Nat) : Int) % 2) = V.int 1) = decide (code / 2 ^ i % 2 = 1) := by
        rw [decide_eq_decide]
        constructor
        · intro h
          have h := V.int.inj h
          omega
        · intro h
          congr 1
          omega
      refine ⟨_, rfl, ?_⟩
      have k23 := sm.trans k2
      by_cases z : code / 2 ^ i % 2 = 1
      · rw [vd, decide_eq_true z]
        refine iteT ?_
        refine ⟨_, rfl, _, rfl, p, _, _, _, rfl, rfl, SqL.of (k2 _ _ (sm _ _ hp2)), atI_nat get, _, eD, ?_, ?_, fun b o zz => ?_⟩
        · unfold lettersV pick
          rw [List.length_map, List.length_map]
          exact small1000 (by
            have z := List.length_filter_le (fun k => decide (code / 2 ^ k % 2 = 1)) (List.range i)
            rw [List.length_range] at z
            omega)
        · rw [upd_same, nx, if_pos z]
          unfold lettersV
          rw [List.map_append]
          rfl
        · rw [upd_ne (ne_of_none zz hD)]
          exact k23 _ _ zz
      · rw [vd, decide_eq_false z]
        refine iteF ⟨?_, k23⟩
        rw [nx, if_neg z, List.append_nil]
        exact eD
    · rintro H3 ⟨e, sm⟩
      generalize hpk : pick ls code 2 = pk at e
      have psub : ∀ n ∈ pk, n ∈ ls := by rw [← hpk]; exact pick_sub len
      have pnd : pk.Nodup := by rw [← hpk]; exact pick_nd len ndl
      have pne : pk ≠ [] := by rw [← hpk]; exact pick_ne (by omega) (by omega)
      have palpha : ∀ n ∈ pk, n ∈ alpha := fun n hn => sub n (psub n hn)
      have plen : pk.length ≤ 2 := by
        rw [← hpk]
        unfold pick
        rw [List.length_map]
        have z := List.length_filter_le (fun k => decide (code / 2 ^ k % 2 = 1)) (List.range 2)
        rw [List.length_range] at z
        exact z
      refine ⟨D, pk.map sg, rfl, SqL.of (by rw [← strs_sg]; exact e), (by rw [List.length_map]; omega), fun ys g3 perm srt ng3 => ?_⟩
      have ey : ys = (norm pk).map sg := by
        refine once_eq palpha srt (perm.nodup_iff.mpr ?_) fun z => perm.mem_iff
        exact List.Pairwise.map sg (fun x y n e => n (sg_inj e)) pnd
      subst ey
      have k3 := same_new (o := .lst (((norm pk).map sg).map V.str)) ng3
      refine ⟨tx [], g3, (norm pk).map sg, rfl, rfl, .inl (SqL.of upd_same), ?_, ?_⟩
      · rw [sum_sg, len_tx, List.length_map]
        have := norm_len pk
        show (norm pk).length + (norm pk).length * 0 ≤ 16777216
        omega
      rw [join_sg]
      refine q (norm pk) _ ((B2.same sm).same k3) (K02.trans (Kept.of (sm.trans k3))) (fun z => ?_) (norm_norm pk) (fun n hn => psub n ((mem_norm palpha n).mp hn))
      cases hpk2 : pk with
      | nil => exact pne hpk2
      | cons x r =>
        have m : x ∈ norm pk := (mem_norm palpha x).mpr (by rw [hpk2]; exact List.mem_cons_self)
        rw [z] at m
        cases m
end
end K14

set_option autoImplicit false
set_option maxErrors 4
namespace K14
open PySem PySem.Spec PyProof.Rows L2 Tl
/-! ### drawn runs, drawn alternatives -/
section
variable {P : Program} {w : World} {K : PySem.W.Frag} {mg : Str → Option Value} {base : Heap} {NC KC BK C : Addr}
/-- two drawn letters -/
structure Two (b c p : Addr) (ls : List Nat) (H : Hp) : Prop where
  bag : Bag H b c
  row : H p = some (.lst (lettersV ls))
  pb : p ≠ b
  pc : p ≠ c
  len : ls.length = 2
  nd : ls.Nodup
  sub : ∀ n ∈ ls, n ∈ alpha
theorem Two.kept {b c p : Addr} {ls : List Nat} {H H' : Hp} (h : Two b c p ls H) (B : Bag H' b c) (k : Kept b c H H') : Two b c p ls H' := ⟨B, k _ _ h.row h.pb h.pc, h.pb, h.pc, h.len, h.nd, h.sub⟩
theorem Two.same {b c p : Addr} {ls : List Nat} {H H' : Hp} (h : Two b c p ls H) (s : Same H H') : Two b c p ls H' := h.kept (h.bag.same s) (Kept.of s)
/-- a drawn run over the letters ls -/
structure RunS (ls : List Nat) (r : RunL) : Prop where
  g : RunG r
  four : pcR r ≤ 4
  sub : ∀ c ∈ r.1.cps.toList, c ∈ ls
theorem RunS.made {ls S : List Nat} {n : Nat} {m : Option Nat} (neS : S ≠ []) (nS : norm S = S) (sS : ∀ c ∈ S, c ∈ ls) (n2 : n ≤ 2) (top : ∀ k, m = some k → n ≤ k ∧ 1 ≤ k ∧ k ≤ 4) : RunS ls (tx S, n, m) := by
  refine ⟨⟨⟨S, rfl, neS, nS⟩, Nat.le_trans n2 (by decide), fun k e => ?_⟩, ?_, fun c hc => sS c hc⟩
  · obtain ⟨a, b, c⟩ := top k e
    exact ⟨a, b, Nat.le_trans c (by decide)⟩
  · unfold pcR pcL
    cases m with
    | none => exact Nat.max_le.mpr ⟨Nat.le_trans n2 (by decide), by decide⟩
    | some k => exact (top k rfl).2.2
theorem RunS.one {ls : List Nat} {r : RunL} (h : RunS ls r) : RunS ls (r.1, 1, r.2.2) := by
  refine ⟨⟨h.g.tx, by show 1 ≤ 40; decide, fun k e => ⟨(h.g.top k e).2.1, (h.g.top k e).2⟩⟩, ?_, h.sub⟩
  have f := h.four
  obtain ⟨x, l, m⟩ := r
  unfold pcR pcL at f ⊢
  cases m with
  | none => exact Nat.max_le.mpr ⟨by show 1 ≤ 4; decide, by decide⟩
  | some k => exact f
abbrev l5 : List V := [.int 1, .int 0, .int 1, .int 2, .int 1]
def spRunD : Sp := fun vs H Q _ => ∃ (b c p : Addr) (ls : List Nat), vs = [.ref b, .ref p] ∧ Two b c p ls H ∧ ∀ t r H', Bag H' b c → Kept b c H H' → H t = none → RunAt H' t r → RunS ls r → Q (.ref t) H'
theorem ok_runD {f : Addr} {fd : FuncData} (F : FnP K "_law_run" "_law_run" s_l_run f fd) (N : Nms mg) (S : Can P w K mg base CX0 "_law_signs" ["_law_bag_here", "_law_letters_here"] 2 spSigns2) (D : Can P w K mg base CX0 "_law_draw" ["_law_bag_here", "_law_limit"] 1 spDraw) : FnOk P w K mg base CX0 3 f fd ["_law_bag_here", "_law_letters_here"] spRunD := by
  obtain ⟨fS, fdS, GS, gS, kS, bS⟩ := S
  obtain ⟨fD, fdD, GD, gD, kD, bD⟩ := D
  have nd := sc_l_run.nd
  refine F.ok sc_l_run (fun vs H Q E h => ?_) (fun cdv A outer s H vs Q E hr h => ?_)
  · obtain ⟨b, c, p, ls, rfl, _⟩ := h
    rfl
  · obtain ⟨b, c, p, ls, rfl, tw, q⟩ := h
    have r1 := hr.mono (show 1 ≤ 2 by decide)
    refine ⟨_, PSs.nox (pss_cons (ps_set (i := 2) nd rfl (.inl rfl) (pe_call GS hr (by rfl) gS kS bS .nil pass0 (pa_cons (pv 0) (pa_cons (pv 1) pa_nil))))
      (pss_cons (ps_set (i := 3) nd rfl (.inl rfl) (pe_ix (r := rIxL K) ix_list (pe_lst (pa_cons pe_int (pa_cons pe_int (pa_cons pe_int (pa_cons pe_int (pa_cons pe_int pa_nil)))))) (pe_call GD r1 (by rfl) gD kD bD .nil pass0 (pa_cons (pv 0) (pa_cons pe_int pa_nil))) (fun _ _ => rfl)))
      (pss_cons (ps_set (i := 4) nd rfl (.inl rfl) (pe_call GD r1 (by rfl) gD kD bD .nil pass0 (pa_cons (pv 0) (pa_cons pe_int pa_nil))))
      (pss_cons (ps_if (pt_cmpR op_eq (pv 4) pe_int (nomark _)) (pss_one (ps_ret (pe_tup (pa_cons (pv 2) (pa_cons (pv 3) (pa_cons pe_non pa_nil)))))) pss_nil)
      (pss_one (ps_ret (pe_tup (pa_cons (pv 2) (pa_cons (pv 3) (pa_cons (pe_callB (call_max2 rfl) (by rfl) N.max (by decide +kernel) (pa_cons pe_int (pa_cons (pe_op op_add (pv 3) (pv 4)) pa_nil))) pa_nil)))))))))), ?_⟩
    refine ⟨_, rfl, _, rfl, b, c, p, ls, rfl, tw.bag, tw.row, tw.pb, tw.pc, tw.len, tw.nd, tw.sub, fun S H1 B1 K1 neS nS sS => ?_⟩
    refine ⟨line_small (by show 5 ≤ 16777216; decide), fun l1 n1 => ?_⟩
    have k1 := same_new (o := .lst l5) n1
    have nb1 := B1.neB n1
    have nc1 := B1.neC n1
    refine ⟨_, rfl, b, c, 5, rfl, B1.same k1, by decide, by decide, fun d H2 d0 d5 B2 K2 => ?_⟩
    have K02 := (K1.trans (Kept.of k1)).trans K2
    obtain ⟨n, at_, n2⟩ : ∃ n : Nat, atI l5 d = some (.int (n : Nat)) ∧ n ≤ 2 := by
      have cs : d = 0 ∨ d = 1 ∨ d = 2 ∨ d = 3 ∨ d = 4 := by omega
      rcases cs with rfl | rfl | rfl | rfl | rfl
      · exact ⟨1, rfl, by decide⟩
      · exact ⟨0, rfl, by decide⟩
      · exact ⟨1, rfl, by decide⟩
      · exact ⟨2, rfl, by decide⟩
      · exact ⟨1, rfl, by decide⟩
    refine ⟨l1, _, d, _, rfl, rfl, SqL.of (K2 _ _ upd_same nb1 nc1), at_, ?_⟩
    refine ⟨_, rfl, b, c, 4, rfl, B2, by decide, by decide, fun x H3 x0 x4 B3 K3 => ?_⟩
    have K03 := K02.trans K3
    obtain ⟨x, rfl⟩ := Int.eq_ofNat_of_zero_le x0
    have fr : ∀ {t : Addr}, H3 t = none → H t = none := fun {t} h => by
      cases e : H t with
      | none => rfl
      | some o =>
        exfalso
        by_cases hb : t = b
        · obtain ⟨_, _, _, z⟩ := B3.top
          rw [hb, z] at h
          cases h
        by_cases hc : t = c
        · obtain ⟨_, z⟩ := B3.cells
          rw [hc, z] at h
          cases h
        have z := K03 t o e hb hc
        rw [h] at z
        cases z
    have z3 : (3 : Nat) ≤ sizeLine := line_small (by decide)
    refine ⟨_, rfl, rfl, _, rfl, ?_⟩
    by_cases hx : x = 3
    · subst hx
      refine iteT ?_
      refine ⟨_, rfl, _, rfl, z3, fun t ht => ?_⟩
      have k3 := same_new (o := .tup [.str (tx S), .int (n : Nat), .non]) ht
      exact q t (tx S, n, none) _ (B3.same k3) (K03.trans (Kept.of k3)) (fr ht) upd_same (RunS.made neS nS sS n2 fun m z => by cases z)
    · refine (if_neg (fun z => hx (by have := V.int.inj (of_decide_eq_true z); omega))).mpr ?_
      refine ⟨_, rfl, _, rfl, _, rfl, _, rfl, _, _, rfl, rfl, 1, ((n : Nat) : Int) + ((x : Nat) : Int), rfl, z3, fun t ht => ?_⟩
      have em : (if ((n : Nat) : Int) + ((x : Nat) : Int) > 1 then ((n : Nat) : Int) + ((x : Nat) : Int) else (1 : Int)) = ((max 1 (n + x) : Nat) : Int) := by
        split <;> omega
      rw [em]
      have k3 := same_new (o := .tup [.str (tx S), .int (n : Nat), .int ((max 1 (n + x) : Nat) : Int)]) ht
      refine q t (tx S, n, some (max 1 (n + x))) _ (B3.same k3) (K03.trans (Kept.of k3)) (fr ht) upd_same (RunS.made neS nS sS n2 fun m z => ?_)
      cases z
      show n ≤ max 1 (n + x) ∧ 1 ≤ max 1 (n + x) ∧ max 1 (n + x) ≤ 4
      omega
/-- drawn alternatives -/
structure RowS (ls : List Nat) (r : RowL) : Prop where
  ne : r ≠ []
  few : r.length ≤ 3
  all : ∀ x ∈ r, RunS ls x
  one : ∃ x ∈ r, 1 ≤ x.2.1
abbrev l3 : List V := [.int 1, .int 2, .int 1]
abbrev l4 : List V := [.int 1, .int 2, .int 1, .int 3]
abbrev rIxTup (K : PySem.W.Frag) := rIxT K
def spRowsD : Sp := fun vs H Q _ => ∃ (b c p : Addr) (ls : List Nat), vs = [.ref b, .ref p] ∧ Two b c p ls H ∧ ∀ R (rs : Rws) H', Bag H' b c → Kept b c H H' → H R = none → R ≠ b → R ≠ c → H' R = some (.lst (rowsV rs)) → RowsAt H' rs → 1 ≤ rs.length → rs.length ≤ 2 → (∀ x ∈ rs, RowS ls x.1) → Q (.ref R) H'
theorem free_kept {b c t : Addr} {H H' : Hp} (k : Kept b c H H') (h : H' t = none) (nb : t ≠ b) (nc : t ≠ c) : H t = none := by
  cases e : H t with
  | none => rfl
  | some o =>
    have z := k t o e nb nc
    rw [h] at z
    cases z
theorem upd_tups {H : Hp} {R : Addr} {xs : List V} {u : HO} (h : H R = some (.lst xs)) : ∀ c ys, H c = some (.tup ys) → upd H R u c = some (.tup ys) := fun c ys z => by
  by_cases e : c = R
  · rw [e, h] at z
    cases z
  · rw [upd_ne e]
    exact z
set_option maxHeartbeats 20000000 in
theorem ok_rowsD {f : Addr} {fd : FuncData} (F : FnP K "_law_rows" "_law_rows" s_l_rows f fd) (N : Nms mg) (S : Can P w K mg base CX0 "_law_run" ["_law_bag_here", "_law_letters_here"] 3 spRunD) (D : Can P w K mg base CX0 "_law_draw" ["_law_bag_here", "_law_limit"] 1 spDraw) : FnOk P w K mg base CX0 4 f fd ["_law_bag_here", "_law_letters_here"] spRowsD := by
  obtain ⟨fS, fdS, GS, gS, kS, bS⟩ := S
  obtain ⟨fD, fdD, GD, gD, kD, bD⟩ := D
  have nd := sc_l_rows.nd
  refine F.ok sc_l_rows (fun vs H Q E h => ?_) (fun cdv A outer s H vs Q E hr h => ?_)
  · obtain ⟨b, c, p, ls, rfl, _⟩ := h
    rfl
  · obtain ⟨b, c, p, ls, rfl, tw, q⟩ := h
    have r1 := hr.mono (show 1 ≤ 3 by decide)
    refine ⟨_, PSs.nox (pss_cons (ps_set (i := 2) nd rfl (by first | exact .inl rfl | exact .inr rfl) (pe_lst pa_nil))
      (pss_cons (ps_for PassesOwn.never rfl (pi_range1 rfl N.range (pa_cons (pe_ix (r := rIxL K) ix_list (pe_lst (pa_cons pe_int (pa_cons pe_int (pa_cons pe_int pa_nil)))) (pe_call GD r1 (by rfl) gD kD bD .nil pass0 (pa_cons (pv 0) (pa_cons pe_int pa_nil))) (fun _ _ => rfl)) pa_nil)) (pg_name (i := 3) nd rfl (by first | exact .inl rfl | exact .inr rfl))
        (pss_cons (ps_set (i := 4) nd rfl (by first | exact .inl rfl | exact .inr rfl) (pe_lst pa_nil))
        (pss_cons (ps_for PassesOwn.never rfl (pi_range1 rfl N.range (pa_cons (pe_ix (r := rIxL K) ix_list (pe_lst (pa_cons pe_int (pa_cons pe_int (pa_cons pe_int (pa_cons pe_int pa_nil))))) (pe_call GD r1 (by rfl) gD kD bD .nil pass0 (pa_cons (pv 0) (pa_cons pe_int pa_nil))) (fun _ _ => rfl)) pa_nil)) (pg_name (i := 5) nd rfl (by first | exact .inl rfl | exact .inr rfl))
          (pss_one (ps_expr (pe_bm PySem.F.plainAttrs_list PySem.F.slot_list_append PySem.F.type_list_append mt_append (pv 4) (pa_cons (pe_call GS hr (by rfl) gS kS bS .nil pass0 (pa_cons (pv 0) (pa_cons (pv 1) pa_nil))) pa_nil)))))
        (C8.pss_cut (ps_if (pt_cmpR op_eq (pe_callB (cr_max rfl) (by rfl) N.max (by decide +kernel) (pa_cons (pe_lc (own := [("_law_run_here", 6)]) (g := gName 6) (tt := tYes) rfl nd (pi_list (pv 4)) (blkOk_by (N := ["_law_bag_here", "_law_letters_here", "_law_rows_here", "_law_k", "_law_row_here", "_law_j", "_law_run_here"]) (sc := defScope s_l_rows) (by decide +kernel))
            (fun _ _ _ _ _ => pg_name (i := 6) nd rfl (Or.inl rfl)) (fun _ _ _ _ _ => pts_nil) (fun _ _ _ _ _ => pe_ix (r := rIxTup K) ix_tup (pv 6) pe_int (fun _ _ => rfl))) pa_nil)) pe_int (nomark _))
          (pss_one (ps_asg (pe_tup (pa_cons (pe_ix (r := rIxTup K) ix_tup (pe_ix (r := rIxL K) ix_list (pv 4) pe_int (fun _ _ => rfl)) pe_int (fun _ _ => rfl)) (pa_cons pe_int (pa_cons (pe_ix (r := rIxTup K) ix_tup (pe_ix (r := rIxL K) ix_list (pv 4) pe_int (fun _ _ => rfl)) pe_int (fun _ _ => rfl)) pa_nil)))) (pg_sub (pv 4) pe_int set_list))) pss_nil)
        (pss_one (ps_expr (pe_bm PySem.F.plainAttrs_list PySem.F.slot_list_append PySem.F.type_list_append mt_append (pv 2) (pa_cons (pe_callTy call_tuple_of (by rfl) N.tuple (by decide +kernel) (pa_cons (pv 4) pa_nil)) pa_nil))))))))
      (pss_one (ps_ret (pv 2))))), ?_⟩
    refine ⟨Nat.zero_le _, fun R hR => ?_⟩
    have s1 := same_new (o := .lst []) hR
    have Rb := tw.bag.neB hR
    have Rc := tw.bag.neC hR
    refine ⟨line_small (by show 3 ≤ 16777216; decide), fun l1 n1 => ?_⟩
    have s2 := same_new (o := .lst l3) n1
    have tw2 := (tw.same s1).same s2
    have l1b := (tw.same s1).bag.neB n1
    have l1c := (tw.same s1).bag.neC n1
    refine ⟨_, rfl, b, c, 3, rfl, tw2.bag, by decide, by decide, fun d H2 d0 d3 B2 K2 => ?_⟩
    have tw3 := tw2.kept B2 K2
    have K02 : Kept b c H H2 := ((Kept.of s1).trans (Kept.of s2)).trans K2
    have eR := K2 _ _ (s2 _ _ (upd_same (H := H) (a := R) (o := .lst []))) Rb Rc
    obtain ⟨n, at_, n1', n2'⟩ : ∃ n : Nat, atI l3 d = some (.int (n : Nat)) ∧ 1 ≤ n ∧ n ≤ 2 := by
      have cs : d = 0 ∨ d = 1 ∨ d = 2 := by omega
      rcases cs with rfl | rfl | rfl
      · exact ⟨1, rfl, by decide, by decide⟩
      · exact ⟨2, rfl, by decide, by decide⟩
      · exact ⟨1, rfl, by decide, by decide⟩
    refine ⟨l1, _, d, _, rfl, rfl, SqL.of (K2 _ _ upd_same l1b l1c), at_, n, rfl, by omega, by omega, ?_⟩
    refine for_range (lo := 0) (n := ((n : Nat) : Int).toNat) (fun i σ H' => ∃ (rs : Rws) (x3 x4 x5 x6 : Option V), σ = [some (.ref b), some (.ref p), some (.ref R), x3, x4, x5, x6] ∧ Two b c p ls H' ∧ Kept b c H H' ∧ H' R = some (.lst (rowsV rs)) ∧ RowsAt H' rs ∧ rs.length = i ∧ ∀ x ∈ rs, RowS ls x.1) ⟨[], none, none, none, none, rfl, tw3, K02, eR, (fun x hx => by cases hx), rfl, by simp⟩ ?_ ?_
    · rintro i σ H3 hi ⟨rs, x3, x4, x5, x6, rfl, tw4, K3, e3, at3, len3, g3⟩
      rw [Int.toNat_natCast] at hi
      refine ⟨Nat.zero_le _, fun W hW => ?_⟩
      have s3 := same_new (o := .lst []) hW
      have Wb := tw4.bag.neB hW
      have Wc := tw4.bag.neC hW
      have WR : W ≠ R := (ne_of_none e3 hW).symm
      refine ⟨line_small (by show 4 ≤ 16777216; decide), fun l2 n2 => ?_⟩
      have s4 := same_new (o := .lst l4) n2
      have tw5 := (tw4.same s3).same s4
      have l2b := (tw4.same s3).bag.neB n2
      have l2c := (tw4.same s3).bag.neC n2
      refine ⟨_, rfl, b, c, 4, rfl, tw5.bag, by decide, by decide, fun x H4 x0 x4' B4 K4 => ?_⟩
      have tw6 := tw5.kept B4 K4
      have K34 : Kept b c H3 H4 := ((Kept.of s3).trans (Kept.of s4)).trans K4
      have eW := K4 _ _ (s4 _ _ (upd_same (H := H3) (a := W) (o := .lst []))) Wb Wc
      obtain ⟨m, atm, m1, m3⟩ : ∃ m : Nat, atI l4 x = some (.int (m : Nat)) ∧ 1 ≤ m ∧ m ≤ 3 := by
        have cs : x = 0 ∨ x = 1 ∨ x = 2 ∨ x = 3 := by omega
        rcases cs with rfl | rfl | rfl | rfl
        · exact ⟨1, rfl, by decide, by decide⟩
        · exact ⟨2, rfl, by decide, by decide⟩
        · exact ⟨1, rfl, by decide, by decide⟩
        · exact ⟨3, rfl, by decide, by decide⟩
      refine ⟨l2, _, x, _, rfl, rfl, SqL.of (K4 _ _ upd_same l2b l2c), atm, m, rfl, by omega, by omega, ?_⟩
      refine for_range (lo := 0) (n := ((m : Nat) : Int).toNat) (fun j σ H' => ∃ (bs : Rns) (y5 y6 : Option V), σ = [some (.ref b), some (.ref p), some (.ref R), some (.int (0 + (i : Int))), some (.ref W), y5, y6] ∧ Two b c p ls H' ∧ Kept b c H3 H' ∧ H' W = some (.lst (runsV bs)) ∧ (∀ x ∈ bs, RunAt H' x.2 x.1) ∧ bs.length = j ∧ ∀ x ∈ bs, RunS ls x.1) ⟨[], x5, x6, rfl, tw6, K34, eW, (fun x hx => by cases hx), rfl, by simp⟩ ?_ ?_
      · rintro j σ H5 hj ⟨bs, y5, y6, rfl, tw7, K5, e5, at5, len5, g5⟩
        rw [Int.toNat_natCast] at hj
        refine ⟨.ref W, rfl, .inl ⟨rfl, _, SqL.of e5⟩, _, rfl, _, rfl, b, c, p, ls, rfl, tw7, fun t r H6 B6 K6 nt rat rg => ?_⟩
        have e6 := K6 _ _ e5 Wb Wc
        have tW : t ≠ W := (ne_of_none e5 nt).symm
        refine ⟨W, _, _, rfl, rfl, e6, ?_, ?_⟩
        · unfold runsV
          rw [List.length_map]
          exact small1000 (by omega)
        · refine ⟨bs ++ [(r, t)], _, y6, rfl, ?_, fun x o e nb nc => ?_, ?_, ?_, ?_, ?_⟩
          · have tw8 := tw7.kept B6 K6
            have pW : p ≠ W := fun z => by rw [← z] at hW; rw [tw4.row] at hW; cases hW
            exact ⟨by
              obtain ⟨u1, u2, u3, u4⟩ := tw8.bag.top
              obtain ⟨u5, u6⟩ := tw8.bag.cells
              exact ⟨⟨u1, u2, u3, by rw [upd_ne (Ne.symm Wb)]; exact u4⟩, ⟨u5, by rw [upd_ne (Ne.symm Wc)]; exact u6⟩⟩, by rw [upd_ne pW]; exact tw8.row, tw8.pb, tw8.pc, tw8.len, tw8.nd, tw8.sub⟩
          · rw [upd_ne (ne_of_none e hW)]
            exact (K5.trans K6) x o e nb nc
          · rw [upd_same]
            unfold runsV
            rw [List.map_append]
            rfl
          · intro u hu
            have keepT : ∀ {d : Addr} {v : HO}, H6 d = some v → d ≠ W → upd H6 W (.lst (runsV bs ++ [.ref t])) d = some v := fun {d v} z nd => by
              rw [upd_ne nd]
              exact z
            rcases List.mem_append.mp hu with hu | hu
            · have z := kept_tup tw7.bag K6 _ _ (at5 u hu)
              exact keepT z (fun y => by rw [y, e6] at z; cases z)
            · rw [List.mem_singleton.mp hu]
              exact keepT rat tW
          · rw [List.length_append, len5]
            rfl
          · intro u hu
            rcases List.mem_append.mp hu with hu | hu
            · exact g5 u hu
            · rw [List.mem_singleton.mp hu]
              exact rg
      · rintro σ H5 ⟨bs, y5, y6, rfl, tw7, K5, e5, at5, len5, g5⟩
        rw [Int.toNat_natCast] at len5
        refine ⟨fun σ' H' => ∃ (cs : Rns) (y5 y6 : Option V), σ' = [some (.ref b), some (.ref p), some (.ref R), some (.int (0 + (i : Int))), some (.ref W), y5, y6] ∧ Two b c p ls H' ∧ Kept b c H3 H' ∧ H' W = some (.lst (runsV cs)) ∧ (∀ x ∈ cs, RunAt H' x.2 x.1) ∧ cs.length = m ∧ (∀ x ∈ cs, RunS ls x.1) ∧ ∃ x ∈ cs, 1 ≤ x.1.2.1, ?_, ?_⟩
        · have lenV : (runsV bs).length = bs.length := List.length_map _
          refine ⟨_, rfl, W, rfl, ⟨_, SqL.of e5⟩, fun D hD => ?_⟩
          refine lc_it (n := bs.length) (by rw [← lenV]; exact walk_list) (fun j H' => H' D = some (.lst ((bs.take j).map fun x => V.int (x.1.2.1 : Nat))) ∧ Same H5 H') ⟨upd_same, same_new hD⟩ (fun j H' _ h => SqL.of (h.2 _ _ e5)) ?_ ?_
          · rintro j y _ H6 hj ⟨e, sm⟩ ⟨rfl, hy⟩
            have ey : y = .ref bs[j].2 := by
              unfold runsV at hy
              rw [List.getElem?_map, List.getElem?_eq_getElem hj] at hy
              exact (Option.some.inj hy).symm
            subst ey
            have ra : H6 bs[j].2 = some (.tup [.str bs[j].1.1, .int (bs[j].1.2.1 : Nat), mostV bs[j].1.2.2]) := sm _ _ (at5 _ (List.getElem_mem hj))
            refine ⟨rfl, yes_keep ?_⟩
            refine ⟨_, rfl, bs[j].2, _, 1, _, rfl, rfl, SqT.of ra, rfl, _, e, ?_, ?_, fun b o z => ?_⟩
            · rw [List.length_map, List.length_take]
              exact small1000 (by omega)
            · rw [upd_same, List.take_add_one, List.getElem?_eq_getElem hj, List.map_append]
              rfl
            · rw [upd_ne (ne_of_none z hD)]
              exact sm _ _ z
          · rintro H6 ⟨e, sm⟩
            rw [List.take_of_length_le (Nat.le_refl _)] at e
            have el : (bs.map fun x => V.int (x.1.2.1 : Nat)) = (bs.map fun x => ((x.1.2.1 : Nat) : Int)).map V.int := by
              rw [List.map_map]
              rfl
            rw [el] at e
            have tw8 := tw7.same sm
            have K6 : Kept b c H3 H6 := K5.trans (Kept.of sm)
            have e6 := sm _ _ e5
            have at6 : ∀ x ∈ bs, RunAt H6 x.2 x.1 := fun x hx => sm _ _ (at5 x hx)
            refine ⟨D, _, rfl, SqL.of e, (by rw [List.length_map]; omega), fun mx hm hle => ⟨rfl, _, rfl, ite2 (fun e1 => ?_) fun e1 => ⟨bs, _, _, rfl, tw8, K6, e6, at6, len5, g5, by
              obtain ⟨x, hx, rfl⟩ := List.mem_map.mp hm
              exact ⟨x, hx, Nat.pos_of_ne_zero fun z => e1 (decide_eq_true (by rw [z]; rfl))⟩⟩⟩⟩
            cases bs with
            | nil =>
              simp at len5
              omega
            | cons x0 rest =>
              have ra : H6 x0.2 = some (.tup [.str x0.1.1, .int (x0.1.2.1 : Nat), mostV x0.1.2.2]) := at6 _ List.mem_cons_self
              have a0 : atI (runsV (x0 :: rest)) 0 = some (.ref x0.2) := atI_nat (j := 0) rfl
              refine ⟨_, rfl, W, _, 0, _, rfl, rfl, SqL.of e6, a0, x0.2, _, 0, _, rfl, rfl, SqT.of ra, rfl, ?_⟩
              refine ⟨_, rfl, W, _, 0, _, rfl, rfl, SqL.of e6, a0, x0.2, _, 2, _, rfl, rfl, SqT.of ra, rfl, line_small (by show 3 ≤ 16777216; decide), fun u hu => ?_⟩
              have k7 := same_new (o := .tup [.str x0.1.1, .int (1 : Nat), mostV x0.1.2.2]) hu
              have e7 := k7 _ _ e6
              have uW : u ≠ W := (ne_of_none e6 hu).symm
              have ix0 : ixN (runsV (x0 :: rest)).length 0 = some 0 := by
                unfold ixN runsV
                rw [if_pos (by decide), List.length_map, List.length_cons, if_pos (by omega)]
                rfl
              refine ⟨_, rfl, W, _, 0, 0, rfl, rfl, e7, ix0, ?_⟩
              have keepT : ∀ {d : Addr} {v : HO} {z : HO}, upd H6 u z d = some v → d ≠ W → upd (upd H6 u z) W (.lst ((runsV (x0 :: rest)).set 0 (.ref u))) d = some v := fun {d v z} y nd => by
                rw [upd_ne nd]
                exact y
              refine ⟨((x0.1.1, 1, x0.1.2.2), u) :: rest, _, _, rfl, ?_, fun x o e nb nc => ?_, ?_, ?_, len5, ?_, _, List.mem_cons_self, Nat.le_refl _⟩
              · have tw9 := tw8.same k7
                have pW : p ≠ W := fun z => by rw [← z] at hW; rw [tw4.row] at hW; cases hW
                exact ⟨by
                  obtain ⟨u1, u2, u3, u4⟩ := tw9.bag.top
                  obtain ⟨u5, u6⟩ := tw9.bag.cells
                  exact ⟨⟨u1, u2, u3, by rw [upd_ne (Ne.symm Wb)]; exact u4⟩, ⟨u5, by rw [upd_ne (Ne.symm Wc)]; exact u6⟩⟩, by rw [upd_ne pW]; exact tw9.row, tw9.pb, tw9.pc, tw9.len, tw9.nd, tw9.sub⟩
              · rw [upd_ne (ne_of_none e hW)]
                exact k7 _ _ (K6 x o e nb nc)
              · rw [upd_same]
                rfl
              · intro y hy
                rcases List.mem_cons.mp hy with rfl | hy
                · exact keepT upd_same uW
                · have z := k7 _ _ (at6 y (List.mem_cons_of_mem _ hy))
                  exact keepT z (fun w => by rw [w, e7] at z; cases z)
              · intro y hy
                rcases List.mem_cons.mp hy with rfl | hy
                · exact (g5 x0 List.mem_cons_self).one
                · exact g5 y (List.mem_cons_of_mem _ hy)
        · rintro σ' H6 ⟨cs, y5, y6, rfl, tw8, K6, e6, at6, len6, g6, v0, hv0, lo0⟩
          have e3' := K6 _ _ e3 Rb Rc
          refine ⟨.ref R, rfl, .inl ⟨rfl, _, SqL.of e3'⟩, _, rfl, W, _, rfl, .inl ⟨SqL.of e6, fun t ht => ?_⟩⟩
          have k7 := same_new (o := .tup (runsV cs)) ht
          have eR7 := k7 _ _ e3'
          have tR : t ≠ R := (ne_of_none e3' ht).symm
          refine ⟨R, _, _, rfl, rfl, eR7, ?_, ?_⟩
          · unfold rowsV
            rw [List.length_map]
            exact small1000 (by omega)
          have tw9 := tw8.same k7
          have pR : p ≠ R := fun z => by rw [← z] at hR; rw [tw.row] at hR; cases hR
          have tp := upd_tups (u := .lst (rowsV rs ++ [.ref t])) eR7
          refine ⟨rs ++ [(cs.map (·.1), t)], _, _, _, _, rfl, ?_, fun x o e nb nc => ?_, ?_, ?_, ?_, ?_⟩
          · exact ⟨by
              obtain ⟨u1, u2, u3, u4⟩ := tw9.bag.top
              obtain ⟨u5, u6⟩ := tw9.bag.cells
              exact ⟨⟨u1, u2, u3, by rw [upd_ne (Ne.symm Rb)]; exact u4⟩, ⟨u5, by rw [upd_ne (Ne.symm Rc)]; exact u6⟩⟩, by rw [upd_ne pR]; exact tw9.row, tw9.pb, tw9.pc, tw9.len, tw9.nd, tw9.sub⟩
          · rw [upd_ne (ne_of_none e hR)]
            exact k7 _ _ ((K3.trans K6) x o e nb nc)
          · rw [upd_same]
            unfold rowsV
            rw [List.map_append]
            rfl
          · intro x hx
            rcases List.mem_append.mp hx with hx | hx
            · exact nkT (fun a xs z => tp a xs (k7 _ _ (kept_tup tw4.bag K6 a xs z))) _ _ (at3 x hx)
            · rw [List.mem_singleton.mp hx]
              exact row_is (bs := cs) (tp _ _ upd_same) fun y hy => tp _ _ (k7 _ _ (at6 y hy))
          · rw [List.length_append, len3]
            rfl
          · intro x hx
            rcases List.mem_append.mp hx with hx | hx
            · exact g3 x hx
            · rw [List.mem_singleton.mp hx]
              refine ⟨fun z => ?_, by rw [List.length_map]; omega, fun y hy => ?_, v0.1, List.mem_map.mpr ⟨v0, hv0, rfl⟩, lo0⟩
              · have z2 := congrArg List.length z
                rw [List.length_map, len6] at z2
                simp at z2
                omega
              · obtain ⟨v, hv, rfl⟩ := List.mem_map.mp hy
                exact g6 v hv
    · rintro σ H3 ⟨rs, x3, x4, x5, x6, rfl, tw4, K3, e3, at3, len3, g3⟩
      rw [Int.toNat_natCast] at len3
      exact ⟨_, rfl, q R rs H3 tw4.bag K3 hR Rb Rc e3 at3 (by omega) (by omega) g3⟩
end
end K14

set_option autoImplicit false
set_option maxErrors 4
namespace K14
open PySem PySem.Spec PyProof.Rows L2 Tl
/-! ### the kind of drawn alternatives -/
theorem nothingOut {X : Cx} : L2N.Takes X (fun _ _ _ _ => False) := fun _ _ x => by
  obtain ⟨_, _, _, _, _, _, _, _, _, _, _, _, _, _, _, _, w⟩ := x
  exact w.elim
theorem sum_le {xs : List Nat} {n : Nat} (h : ∀ x ∈ xs, x ≤ n) : xs.sum ≤ xs.length * n := by
  induction xs with
  | nil => simp
  | cons x r ih =>
    rw [List.sum_cons, List.length_cons, Nat.succ_mul]
    have := h x List.mem_cons_self
    have := ih fun y hy => h y (List.mem_cons_of_mem _ hy)
    omega
/-- runs of at most B places together -/
structure RowG (B : Nat) (r : RowL) : Prop where
  ne : r ≠ []
  few : r.length ≤ 3
  all : ∀ x ∈ r, RunG x
  pl : (placesR r).sum ≤ B
theorem RowS.g {ls : List Nat} {r : RowL} (h : RowS ls r) : RowG 12 r := by
  refine ⟨h.ne, h.few, fun x hx => (h.all x hx).g, ?_⟩
  have z := sum_le (xs := placesR r) (n := 4) fun x hx => by
    unfold placesR at hx
    obtain ⟨y, hy, rfl⟩ := List.mem_map.mp hx
    exact (h.all y hy).four
  have l : (placesR r).length = r.length := List.length_map _
  have := h.few
  have := Nat.mul_le_mul_right 4 this
  omega
theorem RowG.take {B : Nat} {r : RowL} (h : RowG B r) {j : Nat} (hj : 1 ≤ j) : RowG B (r.take j) := by
  refine ⟨fun z => ?_, by have := h.few; rw [List.length_take]; omega, fun x hx => h.all x (List.mem_of_mem_take hx), ?_⟩
  · have z2 := congrArg List.length z
    have := List.length_pos_iff.mpr h.ne
    rw [List.length_take, List.length_nil] at z2
    omega
  · have z := h.pl
    have e : placesR r = placesR (r.take j) ++ placesR (r.drop j) := by
      unfold placesR
      rw [← List.map_append, List.take_append_drop]
    rw [e, List.sum_append] at z
    omega
theorem RowG.one {B : Nat} {r : RowL} (h : RowG B r) {x : RunL} (hx : x ∈ r) : RowG B [x] := by
  refine ⟨by simp, by show 1 ≤ 3; decide, fun y hy => by rw [List.mem_singleton.mp hy]; exact h.all x hx, ?_⟩
  have z := h.pl
  obtain ⟨u, v, e⟩ := List.append_of_mem hx
  have e2 : placesR r = placesR u ++ (placesR [x] ++ placesR v) := by
    rw [e]
    unfold placesR
    rw [List.map_append]
    rfl
  rw [e2, List.sum_append, List.sum_append] at z
  omega
theorem onceL_len (rows : List RowL) : (onceL rows).length ≤ rows.length := by
  have key : ∀ (xs acc : List RowL), (xs.foldl putL acc).length ≤ acc.length + xs.length := by
    intro xs
    induction xs with
    | nil => exact fun _ => Nat.le_refl _
    | cons x xs ih =>
      intro acc
      rw [List.foldl_cons]
      refine Nat.le_trans (ih _) ?_
      unfold putL
      split
      · rw [List.length_cons]
        omega
      · simp only [List.length_append, List.length_cons, List.length_nil]
        omega
  have z := key rows []
  rw [List.length_nil, Nat.zero_add] at z
  exact z
theorem flat_le {B : Nat} {rows : List RowL} (h : ∀ r ∈ rows, RowG B r) : (rows.flatMap placesR).sum ≤ rows.length * B := by
  induction rows with
  | nil => simp
  | cons x r ih =>
    rw [List.flatMap_cons, List.sum_append, List.length_cons, Nat.succ_mul]
    have := (h x List.mem_cons_self).pl
    have := ih fun y hy => h y (List.mem_cons_of_mem _ hy)
    omega
theorem fine_of {B : Nat} {rows : List RowL} (ne : rows ≠ []) (l : rows.length ≤ 3) (lb : rows.length * B ≤ 120) (h : ∀ r ∈ rows, RowG B r) : Fine rows := by
  refine ⟨?_, ne, fun r m => ⟨(h r m).ne, fun x hx => ((h r m).all x hx).ok⟩⟩
  unfold bigL
  rw [Bool.or_eq_false_iff, Bool.or_eq_false_iff]
  refine ⟨⟨decide_eq_false (by omega), List.any_eq_false.mpr fun r m => ?_⟩, decide_eq_false ?_⟩
  · have := (h r m).few
    simp
    omega
  · have := flat_le h
    omega
theorem fine_once {B : Nat} {rows : List RowL} (ne : rows ≠ []) (l : rows.length ≤ 3) (lb : rows.length * B ≤ 120) (h : ∀ r ∈ rows, RowG B r) : Fine (onceL rows) := fine_of (onceL_ne ne) (Nat.le_trans (onceL_len rows) l) (Nat.le_trans (Nat.mul_le_mul_right B (onceL_len rows)) lb) fun r m => h r (onceL_sub r m)
theorem putL_nd {acc : List RowL} {r : RowL} (h : acc.Nodup) : (putL acc r).Nodup := by
  unfold putL
  split
  · exact h
  · rename_i n
    exact List.nodup_append.mpr ⟨h, by simp, fun x hx y hy e => n (by rw [List.mem_singleton.mp hy] at e; exact e ▸ hx)⟩
theorem onceL_nd (xs : List RowL) : (onceL xs).Nodup := by
  have key : ∀ (xs acc : List RowL), acc.Nodup → (xs.foldl putL acc).Nodup := by
    intro xs
    induction xs with
    | nil => exact fun _ h => h
    | cons x xs ih => exact fun acc h => ih _ (putL_nd h)
  exact key xs [] (by simp)
theorem onceL_id {xs : List RowL} (h : xs.Nodup) : onceL xs = xs := by
  have key : ∀ (xs acc : List RowL), (acc ++ xs).Nodup → xs.foldl putL acc = acc ++ xs := by
    intro xs
    induction xs with
    | nil => exact fun acc _ => (List.append_nil acc).symm
    | cons x xs ih =>
      intro acc h
      have no : ¬ x ∈ acc := fun m => (List.nodup_append.mp h).2.2 x m x List.mem_cons_self rfl
      rw [List.foldl_cons]
      have e : putL acc x = acc ++ [x] := by
        unfold putL
        rw [if_neg no]
      rw [e, ih (acc ++ [x]) (by rw [List.append_assoc]; exact h), List.append_assoc]
      rfl
  exact key xs [] h
theorem onceL_or (xs : List RowL) (r : RowL) : onceL (onceL xs ++ [r]) = onceL (xs ++ [r]) := by
  have e : ∀ ys : List RowL, onceL (ys ++ [r]) = putL (onceL ys) r := fun ys => by
    unfold onceL
    rw [List.foldl_append]
    rfl
  rw [e, e, onceL_id (onceL_nd xs)]
theorem run_read {K : PySem.W.Frag} {C : Addr} {H : Hp} {r : RunL} (g : RunG r) : ∃ (S : List Nat) (a b : Bn), Spl K C H (.str r.1) (some S) ∧ BnAt K H (.int (r.2.1 : Nat)) a ∧ BnAt K H (mostV r.2.2) b ∧ runOk (some S) (boundsOk a b) = some r := by
  obtain ⟨x, l, m⟩ := r
  obtain ⟨S, e, ne, nS⟩ := g.tx
  have low : l ≤ 40 := g.low
  have e : x = tx S := e
  subst e
  have sp : Spl K C H (.str (tx S)) (some S) := by
    have z := Spl.txt (K := K) (C := C) (H := H) (l := S) ⟨by rw [← nS]; exact norm_sub S, by have := norm_len S; rw [nS] at this; omega⟩
    rw [nS] at z
    exact z
  have ok : ∀ o, o = some (l, m) → runOk (some S) o = some (tx S, l, m) := fun o eo => by
    subst eo
    cases S with
    | nil => exact absurd rfl ne
    | cons n S => rfl
  cases m with
  | none =>
    refine ⟨S, .int l, .none, sp, rfl, rfl, ok _ ?_⟩
    rw [bo_n, if_pos ⟨by omega, by omega⟩, Int.toNat_natCast]
  | some m =>
    obtain ⟨t1, t2, t3⟩ := g.top m rfl
    have t1 : l ≤ m := t1
    refine ⟨S, .int l, .int m, sp, rfl, rfl, ok _ ?_⟩
    rw [bo_i, if_pos ⟨by omega, by omega, by omega, by omega, by omega⟩, Int.toNat_natCast, Int.toNat_natCast]
section
variable {P : Program} {w : World} {K : PySem.W.Frag} {mg : Str → Option Value} {base : Heap} {NC KC BK C : Addr}
/-- what the operators of kinds are -/
structure Ops (P : Program) (w : World) (K : PySem.W.Frag) (mg : Str → Option Value) (base : Heap) (NC KC BK C : Addr) : Prop where
  self : PySem.W.selfFirst K KC = true
  kc : KindC K KC
  gK : mg "Kind" = some (.ref KC)
  run : ∃ fR fdR, Stat K KC "run" fR ∧ FnOk P w K mg base (L2N.CX P w) 8 fR fdR ["signs", "least", "most"] (spRun K NC KC BK C) ∧ Binds K fdR ["signs", "least", "most"] []
  add : ∃ f fd, OpC K KC (PySem.dunder (Operator.Add).info.2) f ∧ FnOk P w K mg base (L2N.CX P w) 8 f fd ["self", "other"] (spTwo KC NC BK prodL) ∧ Binds K fd ["self", "other"] []
  or : ∃ f fd, OpC K KC (PySem.dunder (Operator.BitOr).info.2) f ∧ FnOk P w K mg base (L2N.CX P w) 8 f fd ["self", "other"] (spTwo KC NC BK orL) ∧ Binds K fd ["self", "other"] []
def spKindD (KC NC : Addr) : Sp := fun vs H Q _ => ∃ (R : Addr) (rs : Rws) (B : Nat), vs = [.ref R] ∧ H R = some (.lst (rowsV rs)) ∧ RowsAt H rs ∧ 1 ≤ rs.length ∧ rs.length ≤ 3 ∧ rs.length * B ≤ 120 ∧ (∀ x ∈ rs, RowG B x.1) ∧ ∀ k H', Same H H' → KindN KC NC H H' k (onceL (rs.map (·.1))) → Q (.ref k) H'
set_option maxHeartbeats 20000000 in
theorem ok_kindD {f : Addr} {fd : FuncData} (F : FnP K "_law_kind" "_law_kind" s_l_kind f fd) (O : Ops P w K mg base NC KC BK C) : FnOk P w K mg base CX0 9 f fd ["_law_rows_here"] (spKindD KC NC) := by
  obtain ⟨fR, fdR, SR, GR, bR⟩ := O.run
  obtain ⟨fA, fdA, MA, GA, bA⟩ := O.add
  obtain ⟨fO, fdO, MO, GO, bO⟩ := O.or
  have nd := sc_l_kind.nd
  refine F.ok sc_l_kind (fun vs H Q E h => ?_) (fun cdv A outer s H vs Q E hr h => ?_)
  · obtain ⟨R, rs, B, rfl, _⟩ := h
    rfl
  · obtain ⟨R, rs, B, rfl, hR, at_, l1, l2, lb, g, q⟩ := h
    refine ⟨_, PSs.nox (pss_cons (ps_set (i := 1) nd rfl (.inl rfl) pe_non)
      (pss_cons (ps_for PassesOwn.never rfl (pi_list (pv 0)) (pg_name (i := 2) nd rfl (.inl rfl))
        (pss_cons (ps_set (i := 3) nd rfl (.inl rfl) pe_non)
        (pss_cons (ps_for PassesOwn.never rfl (pi_tup (pv 2)) (pg_tup rfl (pgs_cons (pg_name (i := 4) nd rfl (.inl rfl)) (pgs_cons (pg_name (i := 5) nd rfl (.inl rfl)) (pgs_cons (pg_name (i := 6) nd rfl (.inl rfl)) pgs_nil))))
          (pss_one (ps_if (pt_cmpR op_isN (pv 3) pe_non (nomark _)) (pss_one (ps_set (i := 3) nd rfl (.inl rfl) (pe_stat SR GR hr (by rfl) O.gK bR .nil (L2N.passAt (nothingOut)) (pa_cons (pv 4) (pa_cons (pv 5) (pa_cons (pv 6) pa_nil))))))
            (pss_one (ps_set (i := 3) nd rfl (.inl rfl) (pe_opS (op_binE (op := .Add) O.self MA GA hr bA (L2N.passAt (nothingOut))) (pv 3) (pe_stat SR GR hr (by rfl) O.gK bR .nil (L2N.passAt (nothingOut)) (pa_cons (pv 4) (pa_cons (pv 5) (pa_cons (pv 6) pa_nil))))))))))
        (pss_one (ps_if (pt_cmpR op_isN (pv 1) pe_non (nomark _)) (pss_one (ps_set (i := 1) nd rfl (.inl rfl) (pv 3))) (pss_one (ps_set (i := 1) nd rfl (.inl rfl) (pe_opS (op_binE (op := .BitOr) O.self MO GO hr bO (L2N.passAt (nothingOut))) (pv 1) (pv 3)))))))))
      (pss_one (ps_ret (pv 1))))), ?_⟩
    refine ⟨_, rfl, R, rfl, ⟨_, SqL.of hR⟩, ?_⟩
    refine for_list (xs := rowsV rs) (fun i σ H' => ∃ (v1 : V) (x2 x3 x4 x5 x6 : Option V), σ = [some (.ref R), some v1, x2, x3, x4, x5, x6] ∧ Same H H' ∧ ((i = 0 ∧ v1 = .non) ∨ (1 ≤ i ∧ ∃ kh, v1 = .ref kh ∧ KindN KC NC H H' kh (onceL ((rs.map (·.1)).take i))))) ⟨.non, none, none, none, none, none, rfl, Same.refl H, .inl ⟨rfl, rfl⟩⟩ (fun i σ H' _ h => by
      obtain ⟨_, _, _, _, _, _, _, sm, _⟩ := h
      exact SqL.of (sm _ _ hR)) ?_ ?_
    · rintro i x σ H1 hx ⟨v1, x2, x3, x4, x5, x6, rfl, sm, hv⟩
      have hi : i < rs.length := by
        have z := List.getElem?_eq_some_iff.mp hx
        obtain ⟨z, _⟩ := z
        unfold rowsV at z
        rw [List.length_map] at z
        exact z
      have ex : x = .ref rs[i].2 := by
        unfold rowsV at hx
        rw [List.getElem?_map, List.getElem?_eq_getElem hi] at hx
        exact (Option.some.inj hx).symm
      subst ex
      have gi := g _ (List.getElem_mem hi)
      obtain ⟨bs, b1, b2, b3⟩ := row_at ((at_.same sm) _ (List.getElem_mem hi))
      have nb : bs.length = rs[i].1.length := by rw [← b1, List.length_map]
      have nv : (runsV bs).length = bs.length := List.length_map _
      refine ⟨_, rfl, rs[i].2, rfl, ⟨_, SqT.of b2⟩, ?_⟩
      refine for_tup (xs := runsV bs) (fun j σ H' => ∃ (v3 : V) (y4 y5 y6 : Option V), σ = [some (.ref R), some v1, some (.ref rs[i].2), some v3, y4, y5, y6] ∧ Same H1 H' ∧ ((j = 0 ∧ v3 = .non) ∨ (1 ≤ j ∧ ∃ ko, v3 = .ref ko ∧ KindN KC NC H H' ko [rs[i].1.take j]))) ⟨.non, x4, x5, x6, rfl, Same.refl H1, .inl ⟨rfl, rfl⟩⟩ (fun j σ H' _ h => by
        obtain ⟨_, _, _, _, _, sm, _⟩ := h
        exact SqT.of (sm _ _ b2)) ?_ ?_
      · rintro j y σ H2 hy ⟨v3, y4, y5, y6, rfl, sm2, hv3⟩
        have hj : j < bs.length := by
          obtain ⟨z, _⟩ := List.getElem?_eq_some_iff.mp hy
          rw [nv] at z
          exact z
        have ey : y = .ref bs[j].2 := by
          unfold runsV at hy
          rw [List.getElem?_map, List.getElem?_eq_getElem hj] at hy
          exact (Option.some.inj hy).symm
        subst ey
        have ra : H2 bs[j].2 = some (.tup [.str bs[j].1.1, .int (bs[j].1.2.1 : Nat), mostV bs[j].1.2.2]) := sm2 _ _ (b3 _ (List.getElem_mem hj))
        have er : rs[i].1[j]? = some bs[j].1 := by
          rw [← b1, List.getElem?_map, List.getElem?_eq_getElem hj]
          rfl
        have gr := gi.all _ (List.mem_of_getElem? er)
        refine ⟨bs[j].2, _, rfl, SqT.of ra, rfl, _, _, rfl, _, _, rfl, _, _, rfl, rfl, ?_⟩
        obtain ⟨S, an, bn, sp, ha, hb, ro⟩ := run_read (K := K) (C := C) (H := H2) gr
        have et : rs[i].1.take (j + 1) = rs[i].1.take j ++ [bs[j].1] := by
          rw [List.take_add_one, er]
          rfl
        refine ⟨_, rfl, rfl, _, rfl, ?_⟩
        rcases hv3 with ⟨rfl, rfl⟩ | ⟨j1, ko, rfl, kl⟩
        · refine iteT ?_
          refine ⟨_, rfl, _, rfl, _, rfl, _, _, _, some S, an, bn, rfl, sp, ha, hb, (fun no => by rw [ro] at no; cases no), fun r er2 => ?_⟩
          rw [ro] at er2
          cases er2
          intro k H3 s3 kl
          refine ⟨.ref k, _, _, _, rfl, sm2.trans s3, .inr ⟨by omega, k, rfl, ?_⟩⟩
          rw [et]
          exact kl.from (sm.trans sm2)
        · refine iteF ?_
          refine ⟨_, rfl, _, rfl, _, rfl, _, rfl, _, _, _, some S, an, bn, rfl, sp, ha, hb, (fun no => by rw [ro] at no; cases no), fun r er2 => ?_⟩
          rw [ro] at er2
          cases er2
          intro k H3 s3 kn
          obtain ⟨dxa, ta, na, rsa, a1, a2, a3, a4⟩ := id kl
          obtain ⟨dxb, tb, nb2, rsb, c1, c2, c3, c4⟩ := id kn
          have gt : RowG B (rs[i].1.take j) := gi.take j1
          have gone : RowG B [bs[j].1] := gi.one (List.mem_of_getElem? er)
          have gnew : RowG B (rs[i].1.take j ++ [bs[j].1]) := by
            rw [← et]
            exact gi.take (by omega)
          have b1 : 1 * B ≤ 120 := Nat.le_trans (Nat.mul_le_mul_right B l1) lb
          have one : ∀ {r : RowL}, RowG B r → Fine [r] := fun {r} h => fine_of (by simp) (by show 1 ≤ 3; decide) b1 fun x hx => by rw [List.mem_singleton.mp hx]; exact h
          have ep : prodL [rs[i].1.take j] [[bs[j].1]] = [rs[i].1.take j ++ [bs[j].1]] := rfl
          refine ⟨ko, dxa, _, k, dxb, _, rfl, rfl, s3 _ _ a1, c1, ko, k, _, _, rfl, (kl.same s3).lite, kn.lite, one gt, one gone, fun big => ?_, fun _ k2 H4 s4 k4 => ?_⟩
          · have sm3 := (one gnew).big
            rw [ep] at big
            have big : bigL [rs[i].1.take j ++ [bs[j].1]] = true := big
            rw [sm3] at big
            cases big
          · rw [ep] at k4
            refine ⟨.ref k2, _, _, _, rfl, (sm2.trans s3).trans s4, .inr ⟨by omega, k2, rfl, ?_⟩⟩
            rw [et]
            exact k4.from ((sm.trans sm2).trans s3)
      · rintro σ H2 ⟨v3, y4, y5, y6, rfl, sm2, hv3⟩
        rcases hv3 with ⟨e0, _⟩ | ⟨_, ko, rfl, kl⟩
        · exfalso
          rw [nv, nb] at e0
          exact gi.ne (List.length_eq_zero_iff.mp e0)
        have ef : rs[i].1.take (runsV bs).length = rs[i].1 := List.take_of_length_le (by rw [nv, nb]; exact Nat.le_refl _)
        rw [ef] at kl
        have ti : (rs.map (·.1)).take (i + 1) = (rs.map (·.1)).take i ++ [rs[i].1] := by
          rw [List.take_add_one, List.getElem?_map, List.getElem?_eq_getElem hi]
          rfl
        refine ⟨_, rfl, rfl, _, rfl, ?_⟩
        rcases hv with ⟨rfl, rfl⟩ | ⟨i1, kh, rfl, kk⟩
        · refine iteT ⟨_, rfl, ?_⟩
          refine ⟨.ref ko, _, _, _, _, _, rfl, sm.trans sm2, .inr ⟨by omega, ko, rfl, ?_⟩⟩
          rw [ti]
          exact kl
        · refine iteF ?_
          have kk2 := kk.same sm2
          obtain ⟨dxa, ta, na, rsa, a1, a2, a3, a4⟩ := id kk2
          obtain ⟨dxb, tb, nb2, rsb, c1, c2, c3, c4⟩ := id kl
          have f0 : Fine (onceL ((rs.map (·.1)).take i)) := by
            refine fine_once (B := B) (fun z => ?_) (by rw [List.length_take, List.length_map]; omega) (Nat.le_trans (Nat.mul_le_mul_right B (by rw [List.length_take, List.length_map]; omega)) lb) fun r hr => ?_
            · have z2 := congrArg List.length z
              rw [List.length_take, List.length_map, List.length_nil] at z2
              omega
            · obtain ⟨u, hu, rfl⟩ := List.mem_map.mp (List.mem_of_mem_take hr)
              exact g u hu
          have f1 : Fine [rs[i].1] := fine_of (B := B) (by simp) (by show 1 ≤ 3; decide) (Nat.le_trans (Nat.mul_le_mul_right B l1) lb) fun r hr => by rw [List.mem_singleton.mp hr]; exact gi
          have eo : onceL (orL (onceL ((rs.map (·.1)).take i)) [rs[i].1]) = onceL ((rs.map (·.1)).take (i + 1)) := by
            rw [ti]
            exact onceL_or _ _
          have f2 : Fine (onceL ((rs.map (·.1)).take (i + 1))) := by
            refine fine_once (B := B) (by rw [ti]; simp) (by rw [List.length_take, List.length_map]; omega) (Nat.le_trans (Nat.mul_le_mul_right B (by rw [List.length_take, List.length_map]; omega)) lb) fun r hr => ?_
            obtain ⟨u, hu, rfl⟩ := List.mem_map.mp (List.mem_of_mem_take hr)
            exact g u hu
          refine ⟨_, rfl, _, rfl, kh, dxa, _, ko, dxb, _, rfl, rfl, a1, c1, kh, ko, _, _, rfl, kk2.lite, kl.lite, f0, f1, fun big => ?_, fun _ k2 H4 s4 k4 => ?_⟩
          · rw [eo, f2.big] at big
            cases big
          · rw [eo] at k4
            exact ⟨.ref k2, _, _, _, _, _, rfl, (sm.trans sm2).trans s4, .inr ⟨by omega, k2, rfl, k4.from (sm.trans sm2)⟩⟩
    · rintro σ H1 ⟨v1, x2, x3, x4, x5, x6, rfl, sm, hv⟩
      have lv : (rowsV rs).length = rs.length := List.length_map _
      rcases hv with ⟨e0, _⟩ | ⟨_, kh, rfl, kk⟩
      · omega
      · have ef : (rs.map (·.1)).take (rowsV rs).length = rs.map (·.1) := List.take_of_length_le (by rw [lv, List.length_map]; exact Nat.le_refl _)
        rw [ef] at kk
        exact ⟨_, rfl, q kh H1 sm kk⟩
end
end K14

set_option autoImplicit false
set_option maxErrors 4
namespace K14
open PySem PySem.Spec PyProof.Rows L2 Tl
/-! ### what a net passes; words stand backwards -/
def hasC (n : LNet) (j c : Nat) : Prop := ∃ k s, j = k + 1 ∧ n.chars[k]? = some s ∧ c ∈ s.cps.toList
def Rw (n : LNet) : List Nat → Nat → Prop
  | [], j => j = 0
  | c :: w, j => hasC n j c ∧ ∃ i, Rw n w i ∧ (n.follow.getD i 0).testBit j = true
def Lg (n : LNet) (w : List Nat) : Prop := ∃ j, Rw n w j ∧ n.exits.testBit j = true
/-- what is asked of a net -/
structure Fit (n : LNet) : Prop where
  len : n.follow.length = n.chars.length + 1
  fo : ∀ i j, (n.follow.getD i 0).testBit j = true → 1 ≤ j ∧ j ≤ n.chars.length
  ex : ∀ j, n.exits.testBit j = true → j ≤ n.chars.length
theorem has_pos {n : LNet} {j c : Nat} (h : hasC n j c) : 1 ≤ j ∧ j ≤ n.chars.length := by
  obtain ⟨k, s, rfl, e, _⟩ := h
  have := (List.getElem?_eq_some_iff.mp e).1
  omega
theorem R_pos {n : LNet} {w : List Nat} {j : Nat} (h : Rw n w j) (hw : w ≠ []) : 1 ≤ j ∧ j ≤ n.chars.length := by
  cases w with
  | nil => exact absurd rfl hw
  | cons c w => exact has_pos h.1
theorem R_le {n : LNet} {w : List Nat} {j : Nat} (h : Rw n w j) : j ≤ n.chars.length := by
  cases w with
  | nil =>
    have : j = 0 := h
    omega
  | cons c w => exact (has_pos h.1).2
theorem R_zero {n : LNet} {w : List Nat} (h : Rw n w 0) : w = [] := by
  cases w with
  | nil => rfl
  | cons c w => exact absurd (has_pos h.1).1 (by decide)
theorem has_left {cs ds : List Str} {f g : List Nat} {e k j c : Nat} (h : j ≤ cs.length) : hasC ⟨cs ++ ds, f, e⟩ j c ↔ hasC ⟨cs, g, k⟩ j c := by
  unfold hasC
  constructor
  · rintro ⟨k, s, rfl, e, m⟩
    refine ⟨k, s, rfl, ?_, m⟩
    rw [List.getElem?_append_left (by omega)] at e
    exact e
  · rintro ⟨k, s, rfl, e, m⟩
    refine ⟨k, s, rfl, ?_, m⟩
    rw [List.getElem?_append_left (by omega)]
    exact e
theorem has_right {cs ds : List Str} {f g : List Nat} {e k j c : Nat} (h : 1 ≤ j) : hasC ⟨cs ++ ds, f, e⟩ (cs.length + j) c ↔ hasC ⟨ds, g, k⟩ j c := by
  unfold hasC
  constructor
  · rintro ⟨k, s, ek, e, m⟩
    refine ⟨k - cs.length, s, by omega, ?_, m⟩
    rw [List.getElem?_append_right (by omega)] at e
    exact e
  · rintro ⟨k, s, rfl, e, m⟩
    refine ⟨cs.length + k, s, by omega, ?_, m⟩
    rw [List.getElem?_append_right (by omega), Nat.add_sub_cancel_left]
    exact e
/-! bits -/
theorem ren_bit (p s j : Nat) : (ren p s).testBit j = (if j = 0 then p.testBit 0 else decide (s < j) && p.testBit (j - s)) := by
  unfold ren
  rw [Nat.testBit_or, Nat.testBit_shiftLeft, Nat.testBit_shiftRight, Nat.testBit_and]
  by_cases h : j = 0
  · subst h
    simp
  · rw [if_neg h]
    have e1 : Nat.testBit 1 j = false := by
      obtain ⟨k, rfl⟩ : ∃ k, j = k + 1 := ⟨j - 1, by omega⟩
      rw [Nat.testBit_succ]
      simp
    rw [e1, Bool.and_false, Bool.or_false]
    by_cases g : s < j
    · rw [decide_eq_true g, decide_eq_true (show j ≥ 1 + s by omega)]
      congr 2
      omega
    · rw [decide_eq_false g, decide_eq_false (show ¬ j ≥ 1 + s by omega)]
      rfl
theorem bit_shr (x j : Nat) : ((x >>> j) &&& 1 = 0) ↔ x.testBit j = false := by
  rw [Nat.testBit_eq_decide_div_mod_eq, Nat.shiftRight_eq_div_pow, Nat.and_one_is_mod]
  constructor
  · intro h
    exact decide_eq_false (by omega)
  · intro h
    have := of_decide_eq_false h
    omega
theorem bit_even (x j : Nat) : (x / 2 * 2).testBit j = (decide (1 ≤ j) && x.testBit j) := by
  have e : x / 2 * 2 = (x >>> 1) <<< 1 := by rw [Nat.shiftLeft_eq, Nat.shiftRight_eq_div_pow]
  rw [e, Nat.testBit_shiftLeft, Nat.testBit_shiftRight]
  by_cases h : 1 ≤ j
  · rw [decide_eq_true h]
    congr 2
    omega
  · rw [decide_eq_false h]
    rfl
theorem getD_out {xs : List Nat} {i : Nat} (h : xs.length ≤ i) : xs.getD i 0 = 0 := by
  rw [List.getD_eq_getElem?_getD, List.getElem?_eq_none h]
  rfl
/-! ### one after the other -/
section
variable {a n : LNet}
theorem chain_fl (ha : Fit a) {i : Nat} (h : i ≤ a.chars.length) : (chainStep a n).follow.getD i 0 = if a.exits.testBit i = true then a.follow.getD i 0 ||| ren (n.follow.getD 0 0) a.chars.length else a.follow.getD i 0 := by
  have l : i < a.follow.length := by rw [ha.len]; omega
  unfold chainStep joinF
  rw [List.getD_eq_getElem?_getD, List.getElem?_append_left (by simpa using l), List.getElem?_map, List.getElem?_range l]
  show (if (a.exits >>> i) &&& 1 = 0 then a.follow.getD i 0 else _) = _
  by_cases b : a.exits.testBit i = true
  · rw [if_neg (by rw [bit_shr, b]; decide), if_pos b]
  · rw [if_pos (by rw [bit_shr]; simpa using b), if_neg b]
theorem chain_fr (ha : Fit a) {i : Nat} (h : 1 ≤ i) : (chainStep a n).follow.getD (a.chars.length + i) 0 = ren (n.follow.getD i 0) a.chars.length := by
  unfold chainStep
  have jl : (joinF a.follow a.exits (ren (n.follow.getD 0 0) a.chars.length)).length = a.chars.length + 1 := by
    unfold joinF
    rw [List.length_map, List.length_range, ha.len]
  rw [List.getD_eq_getElem?_getD, List.getElem?_append_right (by omega), jl, show a.chars.length + i - (a.chars.length + 1) = i - 1 by omega, List.getElem?_map, List.getElem?_drop, show 1 + (i - 1) = i by omega]
  rw [List.getD_eq_getElem?_getD]
  cases n.follow[i]? with
  | some x => rfl
  | none =>
    show 0 = ren 0 _
    unfold ren
    simp
theorem chain_fit (ha : Fit a) (hn : Fit n) : Fit (chainStep a n) := by
  have cl : (chainStep a n).chars.length = a.chars.length + n.chars.length := List.length_append
  refine ⟨?_, fun i j h => ?_, fun j h => ?_⟩
  · unfold chainStep joinF
    simp only [List.length_append, List.length_map, List.length_range, List.length_drop]
    rw [ha.len, hn.len]
    omega
  · rw [cl]
    by_cases hi : i ≤ a.chars.length
    · rw [chain_fl ha hi] at h
      split at h
      · rw [Nat.testBit_or, Bool.or_eq_true] at h
        rcases h with h | h
        · have := ha.fo _ _ h
          omega
        · rw [ren_bit] at h
          split at h
          · have := hn.fo _ _ h
            omega
          · rw [Bool.and_eq_true] at h
            have := hn.fo _ _ h.2
            have := of_decide_eq_true h.1
            omega
      · have := ha.fo _ _ h
        omega
    · obtain ⟨k, rfl⟩ : ∃ k, i = a.chars.length + k := ⟨i - a.chars.length, by omega⟩
      rw [chain_fr ha (by omega)] at h
      rw [ren_bit] at h
      split at h
      · have := hn.fo _ _ h
        omega
      · rw [Bool.and_eq_true] at h
        have := hn.fo _ _ h.2
        have := of_decide_eq_true h.1
        omega
  · rw [cl]
    unfold chainStep at h
    rw [Nat.testBit_or, Bool.or_eq_true] at h
    rcases h with h | h
    · rw [ren_bit] at h
      split at h
      · omega
      · rw [Bool.and_eq_true, bit_even, Bool.and_eq_true] at h
        have := hn.ex _ h.2.2
        have := of_decide_eq_true h.1
        omega
    · split at h
      · simp at h
      · have := ha.ex _ h
        omega
theorem chain_Rl (ha : Fit a) (hn : Fit n) : ∀ (w : List Nat) (j : Nat), j ≤ a.chars.length → (Rw (chainStep a n) w j ↔ Rw a w j)
  | [], j, _ => Iff.rfl
  | c :: w, j, hj => by
    show (hasC (chainStep a n) j c ∧ ∃ i, Rw (chainStep a n) w i ∧ _) ↔ (hasC a j c ∧ ∃ i, Rw a w i ∧ _)
    have hh : hasC (chainStep a n) j c ↔ hasC a j c := has_left hj
    rw [hh]
    refine and_congr_right fun hc => ?_
    have j1 := (has_pos hc).1
    constructor
    · rintro ⟨i, ri, b⟩
      by_cases hi : i ≤ a.chars.length
      · refine ⟨i, (chain_Rl ha hn w i hi).mp ri, ?_⟩
        rw [chain_fl ha hi] at b
        split at b
        · rw [Nat.testBit_or, Bool.or_eq_true] at b
          rcases b with b | b
          · exact b
          · rw [ren_bit, if_neg (by omega), decide_eq_false (by omega)] at b
            cases b
        · exact b
      · obtain ⟨k, rfl⟩ : ∃ k, i = a.chars.length + k := ⟨i - a.chars.length, by omega⟩
        rw [chain_fr ha (by omega), ren_bit, if_neg (by omega), decide_eq_false (by omega)] at b
        cases b
    · rintro ⟨i, ri, b⟩
      have hi := R_le ri
      refine ⟨i, (chain_Rl ha hn w i hi).mpr ri, ?_⟩
      rw [chain_fl ha hi]
      split
      · rw [Nat.testBit_or, b]
        rfl
      · exact b
theorem chain_Rr (ha : Fit a) (hn : Fit n) : ∀ (w : List Nat) (j : Nat), 1 ≤ j → (Rw (chainStep a n) w (a.chars.length + j) ↔ ∃ v u, w = v ++ u ∧ Lg a u ∧ Rw n v j)
  | [], j, hj => by
    constructor
    · intro h
      have : a.chars.length + j = 0 := h
      omega
    · rintro ⟨v, u, e, _, r⟩
      obtain ⟨rfl, rfl⟩ := List.append_eq_nil_iff.mp e.symm
      have : j = 0 := r
      omega
  | c :: w, j, hj => by
    show (hasC (chainStep a n) (a.chars.length + j) c ∧ ∃ i, Rw (chainStep a n) w i ∧ _) ↔ _
    have hh : hasC (chainStep a n) (a.chars.length + j) c ↔ hasC n j c := has_right hj
    rw [hh]
    constructor
    · rintro ⟨hc, i, ri, b⟩
      by_cases hi : i ≤ a.chars.length
      · have ra := (chain_Rl ha hn w i hi).mp ri
        rw [chain_fl ha hi] at b
        have no : ∀ {p : Prop}, (a.follow.getD i 0).testBit (a.chars.length + j) = true → p := fun {p} z => by
          have := ha.fo _ _ z
          omega
        split at b
        · rename_i ex
          rw [Nat.testBit_or, Bool.or_eq_true] at b
          rcases b with b | b
          · exact no b
          · rw [ren_bit, if_neg (by omega), Bool.and_eq_true, Nat.add_sub_cancel_left] at b
            exact ⟨[c], w, rfl, ⟨i, ra, ex⟩, hc, 0, rfl, b.2⟩
        · exact no b
      · obtain ⟨k, rfl⟩ : ∃ k, i = a.chars.length + k := ⟨i - a.chars.length, by omega⟩
        obtain ⟨v, u, rfl, la, rv⟩ := (chain_Rr ha hn w k (by omega)).mp ri
        rw [chain_fr ha (by omega), ren_bit, if_neg (by omega), Bool.and_eq_true, Nat.add_sub_cancel_left] at b
        exact ⟨c :: v, u, rfl, la, hc, k, rv, b.2⟩
    · rintro ⟨v, u, e, la, rv⟩
      cases v with
      | nil =>
        have : j = 0 := rv
        omega
      | cons d v =>
        rw [List.cons_append] at e
        injection e with e1 e2
        subst e1 e2
        obtain ⟨hc, k, rk, b⟩ := rv
        refine ⟨hc, ?_⟩
        by_cases hk : k = 0
        · subst hk
          have ev := R_zero rk
          subst ev
          obtain ⟨i, ra, ex⟩ := la
          have hi := R_le ra
          refine ⟨i, (chain_Rl ha hn u i hi).mpr ra, ?_⟩
          rw [chain_fl ha hi, if_pos ex, Nat.testBit_or, ren_bit, if_neg (by omega), decide_eq_true (by omega), Nat.add_sub_cancel_left, b]
          simp
        · refine ⟨a.chars.length + k, (chain_Rr ha hn (v ++ u) k (by omega)).mpr ⟨v, u, rfl, la, rk⟩, ?_⟩
          rw [chain_fr ha (by omega), ren_bit, if_neg (by omega), decide_eq_true (by omega), Nat.add_sub_cancel_left, b]
          rfl
theorem chain_L (ha : Fit a) (hn : Fit n) (w : List Nat) : Lg (chainStep a n) w ↔ ∃ v u, w = v ++ u ∧ Lg a u ∧ Lg n v := by
  have ex : ∀ j, (chainStep a n).exits.testBit j = ((if j = 0 then false else decide (a.chars.length < j) && n.exits.testBit (j - a.chars.length)) || (n.exits.testBit 0 && a.exits.testBit j)) := fun j => by
    unfold chainStep
    rw [Nat.testBit_or, ren_bit]
    congr 1
    · by_cases h : j = 0
      · rw [if_pos h, if_pos h, bit_even]
        rfl
      · rw [if_neg h, if_neg h, bit_even]
        by_cases g : a.chars.length < j
        · rw [decide_eq_true g, decide_eq_true (show 1 ≤ j - a.chars.length by omega)]
          rfl
        · rw [decide_eq_false g]
          rfl
    · have z := bit_shr n.exits 0
      rw [Nat.shiftRight_zero] at z
      by_cases g : n.exits &&& 1 = 0
      · rw [if_pos g, z.mp g]
        simp
      · rw [if_neg g]
        have : n.exits.testBit 0 = true := by
          cases e : n.exits.testBit 0 with
          | true => rfl
          | false => exact absurd (z.mpr e) g
        rw [this]
        simp
  constructor
  · rintro ⟨j, r, b⟩
    rw [ex] at b
    rw [Bool.or_eq_true] at b
    rcases b with b | b
    · split at b
      · cases b
      · rw [Bool.and_eq_true] at b
        have := of_decide_eq_true b.1
        obtain ⟨k, rfl⟩ : ∃ k, j = a.chars.length + k := ⟨j - a.chars.length, by omega⟩
        rw [Nat.add_sub_cancel_left] at b
        obtain ⟨v, u, e, la, rv⟩ := (chain_Rr ha hn w k (by omega)).mp r
        exact ⟨v, u, e, la, k, rv, b.2⟩
    · rw [Bool.and_eq_true] at b
      have := ha.ex _ b.2
      exact ⟨[], w, rfl, ⟨j, (chain_Rl ha hn w j this).mp r, b.2⟩, 0, rfl, b.1⟩
  · rintro ⟨v, u, rfl, la, j, rv, b⟩
    by_cases hj : j = 0
    · subst hj
      have ev := R_zero rv
      subst ev
      obtain ⟨i, ra, e⟩ := la
      refine ⟨i, (chain_Rl ha hn _ i (R_le ra)).mpr ra, ?_⟩
      rw [ex, b, e]
      simp
    · refine ⟨a.chars.length + j, (chain_Rr ha hn _ j (by omega)).mpr ⟨v, u, rfl, la, rv⟩, ?_⟩
      rw [ex, if_neg (by omega), decide_eq_true (by omega), Nat.add_sub_cancel_left, b]
      rfl
/-! ### side by side -/
theorem side_fl (ha : Fit a) {i : Nat} (h : i ≤ a.chars.length) : (sideStep a n).follow.getD i 0 = if i = 0 then a.follow.getD 0 0 ||| ren (n.follow.getD 0 0) a.chars.length else a.follow.getD i 0 := by
  unfold sideStep
  cases i with
  | zero => rfl
  | succ i =>
    rw [if_neg (by omega), List.getD_eq_getElem?_getD, List.getElem?_cons_succ, List.getElem?_append_left (by rw [List.length_drop, ha.len]; omega), List.getElem?_drop, Nat.add_comm 1 i, List.getD_eq_getElem?_getD]
theorem side_fr (ha : Fit a) {i : Nat} (h : 1 ≤ i) : (sideStep a n).follow.getD (a.chars.length + i) 0 = ren (n.follow.getD i 0) a.chars.length := by
  unfold sideStep
  obtain ⟨k, rfl⟩ : ∃ k, i = k + 1 := ⟨i - 1, by omega⟩
  have dl : (a.follow.drop 1).length = a.chars.length := by rw [List.length_drop, ha.len]; omega
  rw [List.getD_eq_getElem?_getD, ← Nat.add_assoc, List.getElem?_cons_succ, List.getElem?_append_right (by omega), dl, Nat.add_sub_cancel_left, List.getElem?_map, List.getElem?_drop, Nat.add_comm 1 k, List.getD_eq_getElem?_getD]
  cases n.follow[k + 1]? with
  | some x => rfl
  | none =>
    show 0 = ren 0 _
    unfold ren
    simp
theorem side_fit (ha : Fit a) (hn : Fit n) : Fit (sideStep a n) := by
  have cl : (sideStep a n).chars.length = a.chars.length + n.chars.length := List.length_append
  have rb : ∀ {x j : Nat}, (∀ k, x.testBit k = true → 1 ≤ k ∧ k ≤ n.chars.length) → (ren x a.chars.length).testBit j = true → 1 ≤ j ∧ j ≤ a.chars.length + n.chars.length := fun {x j} hx h => by
    rw [ren_bit] at h
    split at h
    · have := hx _ h
      omega
    · rw [Bool.and_eq_true] at h
      have := hx _ h.2
      have := of_decide_eq_true h.1
      omega
  refine ⟨?_, fun i j h => ?_, fun j h => ?_⟩
  · unfold sideStep
    simp only [List.length_append, List.length_map, List.length_cons, List.length_drop]
    rw [ha.len, hn.len]
    omega
  · rw [cl]
    by_cases hi : i ≤ a.chars.length
    · rw [side_fl ha hi] at h
      split at h
      · rw [Nat.testBit_or, Bool.or_eq_true] at h
        rcases h with h | h
        · have := ha.fo _ _ h
          omega
        · exact rb (fun k => hn.fo 0 k) h
      · have := ha.fo _ _ h
        omega
    · obtain ⟨k, rfl⟩ : ∃ k, i = a.chars.length + k := ⟨i - a.chars.length, by omega⟩
      rw [side_fr ha (by omega)] at h
      exact rb (fun m => hn.fo k m) h
  · rw [cl]
    unfold sideStep at h
    rw [Nat.testBit_or, Bool.or_eq_true] at h
    rcases h with h | h
    · have := ha.ex _ h
      omega
    · rw [ren_bit] at h
      split at h
      · omega
      · rw [Bool.and_eq_true] at h
        have := hn.ex _ h.2
        have := of_decide_eq_true h.1
        omega
theorem side_Rl (ha : Fit a) (hn : Fit n) : ∀ (w : List Nat) (j : Nat), j ≤ a.chars.length → (Rw (sideStep a n) w j ↔ Rw a w j)
  | [], j, _ => Iff.rfl
  | c :: w, j, hj => by
    show (hasC (sideStep a n) j c ∧ ∃ i, Rw (sideStep a n) w i ∧ _) ↔ (hasC a j c ∧ ∃ i, Rw a w i ∧ _)
    have hh : hasC (sideStep a n) j c ↔ hasC a j c := has_left hj
    rw [hh]
    refine and_congr_right fun hc => ?_
    have j1 := (has_pos hc).1
    constructor
    · rintro ⟨i, ri, b⟩
      by_cases hi : i ≤ a.chars.length
      · refine ⟨i, (side_Rl ha hn w i hi).mp ri, ?_⟩
        rw [side_fl ha hi] at b
        split at b
        · rename_i i0
          subst i0
          rw [Nat.testBit_or, Bool.or_eq_true] at b
          rcases b with b | b
          · exact b
          · rw [ren_bit, if_neg (by omega), decide_eq_false (by omega)] at b
            cases b
        · exact b
      · obtain ⟨k, rfl⟩ : ∃ k, i = a.chars.length + k := ⟨i - a.chars.length, by omega⟩
        rw [side_fr ha (by omega), ren_bit, if_neg (by omega), decide_eq_false (by omega)] at b
        cases b
    · rintro ⟨i, ri, b⟩
      have hi := R_le ri
      refine ⟨i, (side_Rl ha hn w i hi).mpr ri, ?_⟩
      rw [side_fl ha hi]
      split
      · rename_i i0
        subst i0
        rw [Nat.testBit_or, b]
        rfl
      · exact b
theorem side_Rr (ha : Fit a) (hn : Fit n) : ∀ (w : List Nat) (j : Nat), 1 ≤ j → (Rw (sideStep a n) w (a.chars.length + j) ↔ Rw n w j)
  | [], j, hj => by
    constructor
    · intro h
      have : a.chars.length + j = 0 := h
      omega
    · intro h
      have : j = 0 := h
      omega
  | c :: w, j, hj => by
    show (hasC (sideStep a n) (a.chars.length + j) c ∧ ∃ i, Rw (sideStep a n) w i ∧ _) ↔ (hasC n j c ∧ ∃ i, Rw n w i ∧ _)
    have hh : hasC (sideStep a n) (a.chars.length + j) c ↔ hasC n j c := has_right hj
    rw [hh]
    refine and_congr_right fun hc => ?_
    constructor
    · rintro ⟨i, ri, b⟩
      by_cases hi : i ≤ a.chars.length
      · rw [side_fl ha hi] at b
        have no : ∀ {p : Prop}, (a.follow.getD i 0).testBit (a.chars.length + j) = true → p := fun {p} z => by
          have := ha.fo _ _ z
          omega
        split at b
        · rename_i i0
          subst i0
          rw [Nat.testBit_or, Bool.or_eq_true] at b
          rcases b with b | b
          · exact no b
          · rw [ren_bit, if_neg (by omega), Bool.and_eq_true, Nat.add_sub_cancel_left] at b
            have e := R_zero ri
            subst e
            exact ⟨0, rfl, b.2⟩
        · exact no b
      · obtain ⟨k, rfl⟩ : ∃ k, i = a.chars.length + k := ⟨i - a.chars.length, by omega⟩
        rw [side_fr ha (by omega), ren_bit, if_neg (by omega), Bool.and_eq_true, Nat.add_sub_cancel_left] at b
        exact ⟨k, (side_Rr ha hn w k (by omega)).mp ri, b.2⟩
    · rintro ⟨k, rk, b⟩
      by_cases hk : k = 0
      · subst hk
        have ev := R_zero rk
        subst ev
        refine ⟨0, rfl, ?_⟩
        rw [side_fl ha (by omega), if_pos rfl, Nat.testBit_or, ren_bit, if_neg (by omega), decide_eq_true (by omega), Nat.add_sub_cancel_left, b]
        simp
      · refine ⟨a.chars.length + k, (side_Rr ha hn w k (by omega)).mpr rk, ?_⟩
        rw [side_fr ha (by omega), ren_bit, if_neg (by omega), decide_eq_true (by omega), Nat.add_sub_cancel_left, b]
        rfl
theorem side_L (ha : Fit a) (hn : Fit n) (w : List Nat) : Lg (sideStep a n) w ↔ Lg a w ∨ Lg n w := by
  have ex : ∀ j, (sideStep a n).exits.testBit j = (a.exits.testBit j || (if j = 0 then n.exits.testBit 0 else decide (a.chars.length < j) && n.exits.testBit (j - a.chars.length))) := fun j => by
    unfold sideStep
    rw [Nat.testBit_or, ren_bit]
  constructor
  · rintro ⟨j, r, b⟩
    rw [ex, Bool.or_eq_true] at b
    rcases b with b | b
    · exact .inl ⟨j, (side_Rl ha hn w j (ha.ex _ b)).mp r, b⟩
    · split at b
      · rename_i j0
        subst j0
        have e := R_zero r
        subst e
        exact .inr ⟨0, rfl, b⟩
      · rw [Bool.and_eq_true] at b
        have := of_decide_eq_true b.1
        obtain ⟨k, rfl⟩ : ∃ k, j = a.chars.length + k := ⟨j - a.chars.length, by omega⟩
        rw [Nat.add_sub_cancel_left] at b
        exact .inr ⟨k, (side_Rr ha hn w k (by omega)).mp r, b.2⟩
  · rintro (⟨j, r, b⟩ | ⟨j, r, b⟩)
    · refine ⟨j, (side_Rl ha hn w j (R_le r)).mpr r, ?_⟩
      rw [ex, b]
      rfl
    · by_cases hj : j = 0
      · subst hj
        have e := R_zero r
        subst e
        refine ⟨0, rfl, ?_⟩
        rw [ex, if_pos rfl, b]
        simp
      · refine ⟨a.chars.length + j, (side_Rr ha hn w j (by omega)).mpr r, ?_⟩
        rw [ex, if_neg (by omega), decide_eq_true (by omega), Nat.add_sub_cancel_left, b]
        simp
end
/-! ### runs -/
def Seg (r : RunL) (w : List Nat) : Prop := (∀ c ∈ w, c ∈ r.1.cps.toList) ∧ r.2.1 ≤ w.length ∧ ∀ n, r.2.2 = some n → w.length ≤ n
def BndOk (r : RunL) : Prop := ∀ n, r.2.2 = some n → r.2.1 ≤ n
theorem bit_one_shl (k j : Nat) : (1 <<< k).testBit j = decide (j = k) := by
  rw [Nat.shiftLeft_eq, Nat.one_mul, Nat.testBit_two_pow]
  exact decide_eq_decide.mpr eq_comm
theorem run_fl {sg : Str} {l : Nat} {m : Option Nat} (i j : Nat) : ((runL sg l m).follow.getD i 0).testBit j = (if i < pcL l m then decide (j = i + 1) else (decide (i = pcL l m) && m.isNone && decide (j = i))) := by
  unfold runL
  simp only []
  by_cases h : i < pcL l m
  · rw [if_pos h, List.getD_eq_getElem?_getD, List.getElem?_append_left (by simpa using h), List.getElem?_map, List.getElem?_range h]
    show (1 <<< (1 + i)).testBit j = _
    rw [bit_one_shl, Nat.add_comm 1 i]
  · rw [if_neg h, List.getD_eq_getElem?_getD, List.getElem?_append_right (by simpa using h)]
    simp only [List.length_map, List.length_range]
    by_cases e : i = pcL l m
    · subst e
      rw [Nat.sub_self]
      cases m with
      | none =>
        show (1 <<< pcL l none).testBit j = _
        rw [bit_one_shl]
        simp
      | some n =>
        show Nat.testBit 0 j = _
        simp
    · obtain ⟨k, hk⟩ : ∃ k, i - pcL l m = k + 1 := ⟨i - pcL l m - 1, by omega⟩
      rw [hk, decide_eq_false e]
      simp
theorem run_ex {sg : Str} {l : Nat} {m : Option Nat} (h : l ≤ pcL l m) (j : Nat) : (runL sg l m).exits.testBit j = (decide (l ≤ j) && decide (j ≤ pcL l m)) := by
  unfold runL
  simp only []
  have e : (1 <<< (pcL l m + 1)) - (1 <<< l) = (2 ^ (pcL l m + 1 - l) - 1) <<< l := by
    rw [Nat.shiftLeft_eq, Nat.shiftLeft_eq, Nat.shiftLeft_eq, Nat.one_mul, Nat.one_mul, Nat.sub_mul, ← Nat.pow_add, Nat.one_mul, show pcL l m + 1 - l + l = pcL l m + 1 by omega]
  rw [e, Nat.testBit_shiftLeft, Nat.testBit_two_pow_sub_one]
  by_cases g : l ≤ j
  · simp only [ge_iff_le, decide_eq_true g, Bool.true_and]
    exact decide_eq_decide.mpr (by omega)
  · simp only [ge_iff_le, decide_eq_false g, Bool.false_and]
theorem pc_ge {l : Nat} {m : Option Nat} (h : ∀ n, m = some n → l ≤ n) : l ≤ pcL l m := by
  cases m with
  | none => exact Nat.le_max_left _ _
  | some n => exact h n rfl
theorem run_fit {r : RunL} (h : BndOk r) : Fit (runN r) := by
  obtain ⟨sg, l, m⟩ := r
  have cl : (runN (sg, l, m)).chars.length = pcL l m := List.length_replicate
  refine ⟨?_, fun i j b => ?_, fun j b => ?_⟩
  · rw [cl]
    show ((List.range (pcL l m)).map _ ++ [_]).length = _
    simp
  · rw [cl]
    have b : ((runL sg l m).follow.getD i 0).testBit j = true := b
    rw [run_fl] at b
    split at b
    · have := of_decide_eq_true b
      omega
    · rw [Bool.and_eq_true, Bool.and_eq_true] at b
      have e1 := of_decide_eq_true b.1.1
      have e2 := of_decide_eq_true b.2
      cases m with
      | some n => cases b.1.2
      | none =>
        have : 1 ≤ pcL l none := Nat.le_max_right _ _
        omega
  · rw [cl]
    have b : (runL sg l m).exits.testBit j = true := b
    rw [run_ex (pc_ge h), Bool.and_eq_true] at b
    exact of_decide_eq_true b.2
theorem run_has {sg : Str} {l : Nat} {m : Option Nat} {j c : Nat} : hasC (runL sg l m) j c ↔ 1 ≤ j ∧ j ≤ pcL l m ∧ c ∈ sg.cps.toList := by
  unfold hasC runL
  simp only []
  constructor
  · rintro ⟨k, s, rfl, e, h⟩
    rw [List.getElem?_replicate] at e
    split at e
    · cases e
      exact ⟨by omega, by omega, h⟩
    · cases e
  · rintro ⟨h1, h2, h⟩
    refine ⟨j - 1, sg, by omega, ?_, h⟩
    rw [List.getElem?_replicate, if_pos (by omega)]
theorem run_R {sg : Str} {l : Nat} {m : Option Nat} : ∀ (w : List Nat) (j : Nat), Rw (runL sg l m) w j ↔ (∀ c ∈ w, c ∈ sg.cps.toList) ∧ ((m = none ∧ j = min w.length (pcL l m)) ∨ (m ≠ none ∧ j = w.length ∧ j ≤ pcL l m))
  | [], j => by
    constructor
    · intro h
      have h : j = 0 := h
      subst h
      refine ⟨by simp, ?_⟩
      cases m with
      | none => exact .inl ⟨rfl, by simp⟩
      | some n => exact .inr ⟨by simp, rfl, Nat.zero_le _⟩
    · rintro ⟨_, ⟨_, h⟩ | ⟨_, h, _⟩⟩
      · show j = 0
        simpa using h
      · exact h
  | c :: w, j => by
    show (hasC (runL sg l m) j c ∧ ∃ i, Rw (runL sg l m) w i ∧ ((runL sg l m).follow.getD i 0).testBit j = true) ↔ _
    rw [run_has]
    constructor
    · rintro ⟨⟨j1, j2, hc⟩, i, ri, b⟩
      obtain ⟨al, cs⟩ := (run_R w i).mp ri
      refine ⟨fun x hx => (List.mem_cons.mp hx).elim (fun e => e ▸ hc) (al x), ?_⟩
      rw [run_fl] at b
      rw [List.length_cons]
      rcases cs with ⟨em, ei⟩ | ⟨em, ei, li⟩
      · refine .inl ⟨em, ?_⟩
        split at b
        · have := of_decide_eq_true b
          omega
        · rw [Bool.and_eq_true, Bool.and_eq_true] at b
          have := of_decide_eq_true b.1.1
          have := of_decide_eq_true b.2
          omega
      · refine .inr ⟨em, ?_⟩
        split at b
        · have := of_decide_eq_true b
          omega
        · rw [Bool.and_eq_true, Bool.and_eq_true] at b
          cases m with
          | none => exact absurd rfl em
          | some n => cases b.1.2
    · rintro ⟨al, cs⟩
      have hc := al c List.mem_cons_self
      have al2 : ∀ x ∈ w, x ∈ sg.cps.toList := fun x hx => al x (List.mem_cons_of_mem _ hx)
      rw [List.length_cons] at cs
      rcases cs with ⟨em, ej⟩ | ⟨em, ej, lj⟩
      · have p1 : 1 ≤ pcL l m := by
          subst em
          exact Nat.le_max_right _ _
        refine ⟨⟨by omega, by omega, hc⟩, min w.length (pcL l m), (run_R w _).mpr ⟨al2, .inl ⟨em, rfl⟩⟩, ?_⟩
        rw [run_fl]
        split
        · exact decide_eq_true (by omega)
        · rw [decide_eq_true (show min w.length (pcL l m) = pcL l m by omega), em]
          simp
          subst em
          omega
      · refine ⟨⟨by omega, lj, hc⟩, w.length, (run_R w _).mpr ⟨al2, .inr ⟨em, rfl, by omega⟩⟩, ?_⟩
        rw [run_fl, if_pos (by omega)]
        exact decide_eq_true ej
theorem run_L {r : RunL} (h : BndOk r) (w : List Nat) : Lg (runN r) w ↔ Seg r w := by
  obtain ⟨sg, l, m⟩ := r
  have hp : l ≤ pcL l m := pc_ge h
  unfold Lg
  show (∃ j, Rw (runL sg l m) w j ∧ (runL sg l m).exits.testBit j = true) ↔ _
  constructor
  · rintro ⟨j, r, b⟩
    obtain ⟨al, cs⟩ := (run_R w j).mp r
    rw [run_ex hp, Bool.and_eq_true] at b
    have b1 := of_decide_eq_true b.1
    have b2 := of_decide_eq_true b.2
    refine ⟨al, ?_, fun n e => ?_⟩
    · show l ≤ w.length
      rcases cs with ⟨_, e⟩ | ⟨_, e, _⟩ <;> omega
    · have e : m = some n := e
      subst e
      rcases cs with ⟨e, _⟩ | ⟨_, e, _⟩
      · cases e
      · have : pcL l (some n) = n := rfl
        omega
  · rintro ⟨al, h1, h2⟩
    have h1 : l ≤ w.length := h1
    have h2 : ∀ n, m = some n → w.length ≤ n := h2
    cases m with
    | none =>
      have : pcL l none = Nat.max l 1 := rfl
      have e : Nat.max l 1 = max l 1 := rfl
      refine ⟨min w.length (pcL l none), (run_R w _).mpr ⟨al, .inl ⟨rfl, rfl⟩⟩, ?_⟩
      rw [run_ex hp, decide_eq_true (by omega), decide_eq_true (by omega)]
      rfl
    | some n =>
      have := h2 n rfl
      have e : pcL l (some n) = n := rfl
      refine ⟨w.length, (run_R w _).mpr ⟨al, .inr ⟨by simp, rfl, by omega⟩⟩, ?_⟩
      rw [run_ex hp, decide_eq_true (by omega), decide_eq_true (by omega)]
      rfl
/-! ### alternatives, kinds -/
def LC : List LNet → List Nat → Prop
  | [], v => v = []
  | n :: ns, v => ∃ v2 v1, v = v2 ++ v1 ∧ Lg n v1 ∧ LC ns v2
theorem folds : ∀ (ns : List LNet) (acc : LNet), Fit acc → (∀ n ∈ ns, Fit n) → Fit (ns.foldl chainStep acc) ∧ ∀ w, Lg (ns.foldl chainStep acc) w ↔ ∃ v u, w = v ++ u ∧ Lg acc u ∧ LC ns v
  | [], acc, ha, _ => by
    refine ⟨ha, fun w => ⟨fun h => ⟨[], w, rfl, h, rfl⟩, ?_⟩⟩
    rintro ⟨v, u, rfl, h, e⟩
    have e : v = [] := e
    subst e
    exact h
  | n :: ns, acc, ha, hn => by
    have hn1 := hn n List.mem_cons_self
    obtain ⟨f, g⟩ := folds ns (chainStep acc n) (chain_fit ha hn1) (fun x hx => hn x (List.mem_cons_of_mem _ hx))
    refine ⟨f, fun w => ?_⟩
    rw [List.foldl_cons, g]
    constructor
    · rintro ⟨v, u, rfl, h, lc⟩
      obtain ⟨v1, u1, rfl, la, ln⟩ := (chain_L ha hn1 u).mp h
      exact ⟨v ++ v1, u1, by rw [List.append_assoc], la, v, v1, rfl, ln, lc⟩
    · rintro ⟨v, u, rfl, la, v2, v1, rfl, ln, lc⟩
      exact ⟨v2, v1 ++ u, by rw [List.append_assoc], (chain_L ha hn1 _).mpr ⟨v1, u, rfl, la, ln⟩, lc⟩
theorem chain0_fit : Fit chain0 := by
  refine ⟨rfl, fun i j b => ?_, fun j b => ?_⟩
  · have e : chain0.follow.getD i 0 = 0 := by
      unfold chain0
      cases i with
      | zero => rfl
      | succ i => rfl
    rw [e] at b
    simp at b
  · have b : Nat.testBit 1 j = true := b
    cases j with
    | zero => exact Nat.le_refl _
    | succ j =>
      rw [Nat.testBit_succ] at b
      simp at b
theorem chain0_L (w : List Nat) : Lg chain0 w ↔ w = [] := by
  constructor
  · rintro ⟨j, r, b⟩
    have := chain0_fit.ex j b
    have z : chain0.chars.length = 0 := rfl
    have : j = 0 := by omega
    subst this
    exact R_zero r
  · rintro rfl
    exact ⟨0, rfl, rfl⟩
/-- the words of an alternative, of a kind -/
def RowF : RowL → List Nat → Prop
  | [], w => w = []
  | r :: rs, w => ∃ u v, w = u ++ v ∧ Seg r u ∧ RowF rs v
def KindF (rs : List RowL) (w : List Nat) : Prop := ∃ r ∈ rs, RowF r w
theorem seg_rev {r : RunL} {w : List Nat} : Seg r w.reverse ↔ Seg r w := by
  unfold Seg
  simp
theorem rowF_snoc {r : RunL} : ∀ {rs : RowL} {w : List Nat}, RowF (rs ++ [r]) w ↔ ∃ u v, w = u ++ v ∧ RowF rs u ∧ Seg r v
  | [], w => by
    show (∃ u v, w = u ++ v ∧ Seg r u ∧ v = []) ↔ ∃ u v, w = u ++ v ∧ u = [] ∧ Seg r v
    constructor
    · rintro ⟨u, v, rfl, h, rfl⟩
      exact ⟨[], u, by simp, rfl, h⟩
    · rintro ⟨u, v, rfl, rfl, h⟩
      exact ⟨v, [], by simp, h, rfl⟩
  | x :: rs, w => by
    show (∃ u v, w = u ++ v ∧ Seg x u ∧ RowF (rs ++ [r]) v) ↔ _
    constructor
    · rintro ⟨u, v, rfl, h, g⟩
      obtain ⟨u2, v2, rfl, h2, g2⟩ := rowF_snoc.mp g
      exact ⟨u ++ u2, v2, by rw [List.append_assoc], ⟨u, u2, rfl, h, h2⟩, g2⟩
    · rintro ⟨u, v, rfl, ⟨u1, u2, rfl, h1, h2⟩, g⟩
      exact ⟨u1, u2 ++ v, by rw [List.append_assoc], h1, rowF_snoc.mpr ⟨u2, v, rfl, h2, g⟩⟩
theorem lc_rowF : ∀ {r : RowL}, (∀ x ∈ r, BndOk x) → ∀ w, LC (r.map runN) w ↔ RowF r w.reverse
  | [], _, w => by
    show w = [] ↔ w.reverse = []
    simp
  | x :: r, h, w => by
    have hx := h x List.mem_cons_self
    have hr : ∀ y ∈ r, BndOk y := fun y hy => h y (List.mem_cons_of_mem _ hy)
    show (∃ v2 v1, w = v2 ++ v1 ∧ Lg (runN x) v1 ∧ LC (r.map runN) v2) ↔ ∃ u v, w.reverse = u ++ v ∧ Seg x u ∧ RowF r v
    constructor
    · rintro ⟨v2, v1, rfl, l1, l2⟩
      exact ⟨v1.reverse, v2.reverse, by simp, seg_rev.mpr ((run_L hx v1).mp l1), (lc_rowF hr v2).mp l2⟩
    · rintro ⟨u, v, e, s, f⟩
      have e2 : w = v.reverse ++ u.reverse := by
        have z := congrArg List.reverse e
        rw [List.reverse_reverse, List.reverse_append] at z
        exact z
      refine ⟨v.reverse, u.reverse, e2, (run_L hx _).mpr (seg_rev.mpr s), (lc_rowF hr _).mpr ?_⟩
      rw [List.reverse_reverse]
      exact f
theorem alt_fit {r : RowL} (h : ∀ x ∈ r, BndOk x) : Fit (altN r) ∧ ∀ w, Lg (altN r) w ↔ RowF r w.reverse := by
  obtain ⟨f, g⟩ := folds (r.map runN) chain0 chain0_fit (fun n hn => by
    obtain ⟨x, hx, rfl⟩ := List.mem_map.mp hn
    exact run_fit (h x hx))
  refine ⟨f, fun w => ?_⟩
  rw [← lc_rowF h]
  show Lg (List.foldl chainStep chain0 _) w ↔ _
  rw [g]
  constructor
  · rintro ⟨v, u, rfl, l0, lc⟩
    have e := (chain0_L u).mp l0
    subst e
    rw [List.append_nil]
    exact lc
  · intro lc
    exact ⟨w, [], by simp, (chain0_L []).mpr rfl, lc⟩
theorem side_folds : ∀ (ns : List LNet) (acc : LNet), Fit acc → (∀ n ∈ ns, Fit n) → Fit (ns.foldl sideStep acc) ∧ ∀ w, Lg (ns.foldl sideStep acc) w ↔ (Lg acc w ∨ ∃ n ∈ ns, Lg n w)
  | [], acc, ha, _ => ⟨ha, fun w => by simp⟩
  | n :: ns, acc, ha, hn => by
    have hn1 := hn n List.mem_cons_self
    obtain ⟨f, g⟩ := side_folds ns (sideStep acc n) (side_fit ha hn1) (fun x hx => hn x (List.mem_cons_of_mem _ hx))
    refine ⟨f, fun w => ?_⟩
    rw [List.foldl_cons, g, side_L ha hn1]
    simp only [List.mem_cons, exists_eq_or_imp]
    rw [or_assoc]
theorem side0_fit : Fit side0 := by
  refine ⟨rfl, chain0_fit.fo, fun j b => ?_⟩
  have b : Nat.testBit 0 j = true := b
  simp at b
theorem side0_L (w : List Nat) : ¬ Lg side0 w := by
  rintro ⟨j, r, b⟩
  have b : Nat.testBit 0 j = true := b
  simp at b
theorem kind_fit {rs : List RowL} (h : ∀ r ∈ rs, ∀ x ∈ r, BndOk x) : Fit (kindN rs) ∧ ∀ w, Lg (kindN rs) w ↔ KindF rs w.reverse := by
  obtain ⟨f, g⟩ := side_folds (rs.map altN) side0 side0_fit (fun n hn => by
    obtain ⟨x, hx, rfl⟩ := List.mem_map.mp hn
    exact (alt_fit (h x hx)).1)
  refine ⟨f, fun w => ?_⟩
  show Lg (List.foldl sideStep side0 _) w ↔ _
  rw [g]
  constructor
  · rintro (l0 | ⟨n, hn, l⟩)
    · exact absurd l0 (side0_L w)
    · obtain ⟨x, hx, rfl⟩ := List.mem_map.mp hn
      exact ⟨x, hx, ((alt_fit (h x hx)).2 w).mp l⟩
  · rintro ⟨x, hx, rf⟩
    exact .inr ⟨altN x, List.mem_map.mpr ⟨x, hx, rfl⟩, ((alt_fit (h x hx)).2 w).mpr rf⟩
/-! ### sets of places, reckoned -/
def togN (ways : List Nat) (S : Nat) : Nat := (List.range ways.length).foldl (fun acc j => if S.testBit j = true then acc ||| ways.getD j 0 else acc) 0
theorem togN_bit (ways : List Nat) (S k : Nat) : (togN ways S).testBit k = true ↔ ∃ j, S.testBit j = true ∧ (ways.getD j 0).testBit k = true := by
  have key : ∀ n, ((List.range n).foldl (fun acc j => if S.testBit j = true then acc ||| ways.getD j 0 else acc) 0).testBit k = true ↔ ∃ j, j < n ∧ S.testBit j = true ∧ (ways.getD j 0).testBit k = true := by
    intro n
    induction n with
    | zero => simp
    | succ n ih =>
      rw [List.range_succ, List.foldl_append, List.foldl_cons, List.foldl_nil]
      by_cases h : S.testBit n = true
      · rw [if_pos h, Nat.testBit_or, Bool.or_eq_true, ih]
        constructor
        · rintro (⟨j, a, b⟩ | b)
          · exact ⟨j, by omega, b⟩
          · exact ⟨n, by omega, h, b⟩
        · rintro ⟨j, a, b, c⟩
          by_cases e : j = n
          · exact .inr (e ▸ c)
          · exact .inl ⟨j, by omega, b, c⟩
      · rw [if_neg h, ih]
        constructor
        · rintro ⟨j, a, b⟩
          exact ⟨j, by omega, b⟩
        · rintro ⟨j, a, b, c⟩
          have : j ≠ n := fun e => h (e ▸ b)
          exact ⟨j, by omega, b, c⟩
  unfold togN
  rw [key]
  constructor
  · rintro ⟨j, _, b⟩
    exact ⟨j, b⟩
  · rintro ⟨j, b, c⟩
    refine ⟨j, ?_, b, c⟩
    refine Nat.lt_of_not_le fun z => ?_
    rw [getD_out z] at c
    simp at c
/-! dicts from texts to numbers -/
def gN (d : SN) (s : Str) : Nat := (getN d s).getD 0
theorem getN_cons (p : Str × Nat) (d : SN) (t : Str) : getN (p :: d) t = if p.1 = t then some p.2 else getN d t := by
  unfold getN
  rw [List.find?_cons]
  by_cases h : p.1 = t
  · rw [if_pos h, decide_eq_true h]
    rfl
  · rw [if_neg h, decide_eq_false h]
theorem getN_put (d : SN) (s : Str) (v : Nat) (t : Str) : getN (putN d s v) t = if s = t then some v else getN d t := by
  unfold putN
  split
  · rename_i h
    induction d with
    | nil => cases h
    | cons p d ih =>
      rw [List.map_cons, getN_cons, getN_cons]
      by_cases e : p.1 = s
      · rw [if_pos e]
        by_cases z : s = t
        · rw [if_pos (e.trans z), if_pos z]
        · rw [if_neg (fun y => z (e.symm.trans y)), if_neg z, if_neg (fun y => z (e.symm.trans y))]
          by_cases a : (d.any fun p => decide (p.1 = s)) = true
          · rw [ih a, if_neg z]
          · have e2 : d.map (fun p => if p.1 = s then (p.1, v) else p) = d := by
              have a2 : ∀ x ∈ d, ¬ x.1 = s := fun x hx y => a (List.any_eq_true.mpr ⟨x, hx, decide_eq_true y⟩)
              conv => rhs; rw [← List.map_id d]
              exact List.map_congr_left fun x hx => if_neg (a2 x hx)
            rw [e2]
      · rw [if_neg e]
        have a : (d.any fun p => decide (p.1 = s)) = true := by
          rw [List.any_cons, decide_eq_false e, Bool.false_or] at h
          exact h
        by_cases z : p.1 = t
        · rw [if_pos z, if_pos z, if_neg (fun y => e (z.trans y.symm))]
        · rw [if_neg z, if_neg z, ih a]
  · rename_i h
    induction d with
    | nil =>
      rw [List.nil_append, getN_cons]
    | cons p d ih =>
      rw [List.cons_append, getN_cons, getN_cons]
      have h2 : ¬ p.1 = s ∧ ¬ (d.any fun p => decide (p.1 = s)) = true := by
        rw [List.any_cons, Bool.or_eq_true] at h
        exact ⟨fun y => h (.inl (decide_eq_true y)), fun y => h (.inr y)⟩
      by_cases z : p.1 = t
      · rw [if_pos z, if_pos z, if_neg (fun y => h2.1 (z.trans y.symm))]
      · rw [if_neg z, if_neg z]
        exact ih h2.2
theorem gN_add (d : SN) (s : Str) (v : Nat) (t : Str) : gN (addN d s v) t = if s = t then gN d t ||| v else gN d t := by
  unfold gN addN
  rw [getN_put]
  split
  · rename_i h
    subst h
    rfl
  · rfl
theorem putN_nd {d : SN} {s : Str} {v : Nat} (h : (d.map (·.1)).Nodup) : ((putN d s v).map (·.1)).Nodup := by
  unfold putN
  split
  · rw [List.map_map]
    have e : ((fun x : Str × Nat => x.1) ∘ fun p : Str × Nat => if p.1 = s then (p.1, v) else p) = fun p => p.1 := by
      funext p
      show (if p.1 = s then (p.1, v) else p).1 = p.1
      split <;> rfl
    rw [e]
    exact h
  · rename_i a
    rw [List.map_append]
    refine List.nodup_append.mpr ⟨h, by simp, fun x hx y hy e => a ?_⟩
    obtain ⟨p, hp, rfl⟩ := List.mem_map.mp hx
    have hy : y = s := by simpa using hy
    exact List.any_eq_true.mpr ⟨p, hp, decide_eq_true (e.trans hy)⟩
theorem gN_mem {d : SN} (h : (d.map (·.1)).Nodup) {p : Str × Nat} (hp : p ∈ d) : gN d p.1 = p.2 := by
  induction d with
  | nil => cases hp
  | cons q d ih =>
    rw [List.map_cons, List.nodup_cons] at h
    unfold gN
    rw [getN_cons]
    rcases List.mem_cons.mp hp with rfl | hp
    · rw [if_pos rfl]
      rfl
    · rw [if_neg (fun e => h.1 (List.mem_map.mpr ⟨p, hp, e.symm⟩))]
      exact ih h.2 hp
theorem gN_bit_mem {d : SN} {t : Str} {j : Nat} (h : (gN d t).testBit j = true) : ∃ p ∈ d, p.1 = t ∧ p.2.testBit j = true := by
  induction d with
  | nil =>
    have h : Nat.testBit 0 j = true := h
    simp at h
  | cons q d ih =>
    unfold gN at h
    rw [getN_cons] at h
    split at h
    · rename_i e
      exact ⟨q, List.mem_cons_self, e, h⟩
    · obtain ⟨p, hp, a, b⟩ := ih h
      exact ⟨p, List.mem_cons_of_mem _ hp, a, b⟩
theorem bySt_nd (cs : List Str) : ((bySt cs).map (·.1)).Nodup := by
  unfold bySt
  generalize List.range cs.length = ks
  have key : ∀ (ks : List Nat) (d : SN), (d.map (·.1)).Nodup → ((ks.foldl (fun d i => addN d (cs.getD i default) (1 <<< (1 + i))) d).map (·.1)).Nodup := by
    intro ks
    induction ks with
    | nil => exact fun d h => h
    | cons k ks ih => exact fun d h => ih _ (putN_nd h)
  exact key ks [] (by simp)
theorem bySt_bit (cs : List Str) (t : Str) (j : Nat) : (gN (bySt cs) t).testBit j = true ↔ ∃ i, j = i + 1 ∧ cs[i]? = some t := by
  have key : ∀ n, n ≤ cs.length → ((gN ((List.range n).foldl (fun d i => addN d (cs.getD i default) (1 <<< (1 + i))) []) t).testBit j = true ↔ ∃ i, i < n ∧ j = i + 1 ∧ cs[i]? = some t) := by
    intro n
    induction n with
    | zero =>
      intro _
      have e : gN ([] : SN) t = 0 := rfl
      show (gN ([] : SN) t).testBit j = true ↔ _
      rw [e]
      simp
    | succ n ih =>
      intro hn
      have ih := ih (by omega)
      have en : cs[n]? = some cs[n] := List.getElem?_eq_getElem (by omega)
      have ed : cs.getD n default = cs[n] := by rw [List.getD_eq_getElem?_getD, en]; rfl
      rw [List.range_succ, List.foldl_append, List.foldl_cons, List.foldl_nil, gN_add]
      split
      · rename_i e
        rw [Nat.testBit_or, Bool.or_eq_true, ih, bit_one_shl, decide_eq_true_eq]
        constructor
        · rintro (⟨i, a, b⟩ | b)
          · exact ⟨i, by omega, b⟩
          · exact ⟨n, by omega, by omega, by rw [en, ← ed, e]⟩
        · rintro ⟨i, a, b, c⟩
          by_cases z : i = n
          · exact .inr (by omega)
          · exact .inl ⟨i, by omega, b, c⟩
      · rename_i e
        rw [ih]
        constructor
        · rintro ⟨i, a, b⟩
          exact ⟨i, by omega, b⟩
        · rintro ⟨i, a, b, c⟩
          have z : i ≠ n := fun z => by
            subst z
            rw [en] at c
            cases c
            exact e ed
          exact ⟨i, by omega, b, c⟩
  unfold bySt
  rw [key _ (Nat.le_refl _)]
  constructor
  · rintro ⟨i, _, h⟩
    exact ⟨i, h⟩
  · rintro ⟨i, a, b⟩
    exact ⟨i, (List.getElem?_eq_some_iff.mp b).1, a, b⟩
theorem one_str {x c : Nat} : (⟨#[x]⟩ : Str) = ⟨#[c]⟩ ↔ x = c := by
  constructor
  · intro h
    have z := congrArg (fun s : Str => s.cps.toList) h
    have z : [x] = [c] := z
    injection z
  · rintro rfl
    rfl
theorem spread_bit (s : Str) (v : Nat) (c j : Nat) : ∀ (d : SN), (gN (spread d s v) ⟨#[c]⟩).testBit j = true ↔ ((gN d ⟨#[c]⟩).testBit j = true ∨ (c ∈ s.cps.toList ∧ v.testBit j = true)) := by
  unfold spread
  generalize s.cps.toList = xs
  induction xs with
  | nil => intro d; simp
  | cons x xs ih =>
    intro d
    rw [List.foldl_cons, ih, gN_add]
    by_cases h : x = c
    · rw [if_pos (one_str.mpr h), Nat.testBit_or, Bool.or_eq_true]
      subst h
      constructor
      · rintro ((a | a) | a)
        · exact .inl a
        · exact .inr ⟨List.mem_cons_self, a⟩
        · exact .inr ⟨List.mem_cons_of_mem _ a.1, a.2⟩
      · rintro (a | ⟨_, b⟩)
        · exact .inl (.inl a)
        · exact .inl (.inr b)
    · rw [if_neg (fun z => h (one_str.mp z))]
      constructor
      · rintro (a | a)
        · exact .inl a
        · exact .inr ⟨List.mem_cons_of_mem _ a.1, a.2⟩
      · rintro (a | ⟨a, b⟩)
        · exact .inl a
        · rcases List.mem_cons.mp a with e | e
          · exact absurd e.symm h
          · exact .inr ⟨e, b⟩
theorem byCh_bit (c j : Nat) : ∀ (d e : SN), (gN (d.foldl (fun c p => spread c p.1 p.2) e) ⟨#[c]⟩).testBit j = true ↔ ((gN e ⟨#[c]⟩).testBit j = true ∨ ∃ p ∈ d, c ∈ p.1.cps.toList ∧ p.2.testBit j = true)
  | [], e => by simp
  | q :: d, e => by
    rw [List.foldl_cons, byCh_bit c j d, spread_bit, or_assoc]
    simp only [List.mem_cons, exists_eq_or_imp]
theorem stands_bit (n : LNet) (c j : Nat) : (gN (byCh (bySt n.chars)) ⟨#[c]⟩).testBit j = true ↔ hasC n j c := by
  unfold byCh
  rw [byCh_bit]
  constructor
  · rintro (h | ⟨p, hp, hc, b⟩)
    · have h : Nat.testBit 0 j = true := h
      simp at h
    · rw [← gN_mem (bySt_nd _) hp] at b
      obtain ⟨i, e, z⟩ := (bySt_bit _ _ _).mp b
      exact ⟨i, p.1, e, z, hc⟩
  · rintro ⟨k, s, e, z, hc⟩
    obtain ⟨p, hp, e1, b⟩ := gN_bit_mem ((bySt_bit n.chars s j).mpr ⟨k, e, z⟩)
    exact .inr ⟨p, hp, by rw [e1]; exact hc, b⟩
/-- the places at which the walks stand -/
def nextN (n : LNet) (S c : Nat) : Nat := togN n.follow S &&& gN (byCh (bySt n.chars)) ⟨#[c]⟩
def standN (n : LNet) (w : List Nat) : Nat := w.foldl (nextN n) 1
theorem nextN_zero (n : LNet) (c : Nat) : nextN n 0 c = 0 := by
  refine Nat.eq_of_testBit_eq fun k => ?_
  unfold nextN
  have e : (togN n.follow 0).testBit k = false := by
    cases z : (togN n.follow 0).testBit k with
    | false => rfl
    | true =>
      obtain ⟨j, a, _⟩ := (togN_bit _ _ _).mp z
      simp at a
  rw [Nat.testBit_and, e]
  simp
theorem fold_zero (n : LNet) : ∀ w : List Nat, w.foldl (nextN n) 0 = 0
  | [] => rfl
  | c :: w => by rw [List.foldl_cons, nextN_zero, fold_zero n w]
theorem standN_bit (n : LNet) : ∀ (w : List Nat) (j : Nat), (standN n w.reverse).testBit j = true ↔ Rw n w j
  | [], j => by
    show Nat.testBit 1 j = true ↔ j = 0
    cases j with
    | zero => simp
    | succ j =>
      rw [Nat.testBit_succ]
      simp
  | c :: w, j => by
    unfold standN
    rw [List.reverse_cons, List.foldl_append, List.foldl_cons, List.foldl_nil]
    show (nextN n (standN n w.reverse) c).testBit j = true ↔ hasC n j c ∧ ∃ i, Rw n w i ∧ _
    unfold nextN
    rw [Nat.testBit_and, Bool.and_eq_true, togN_bit, stands_bit]
    constructor
    · rintro ⟨⟨i, a, b⟩, h⟩
      exact ⟨h, i, (standN_bit n w i).mp a, b⟩
    · rintro ⟨h, i, a, b⟩
      exact ⟨⟨i, (standN_bit n w i).mpr a, b⟩, h⟩
theorem takes_bit (n : LNet) (w : List Nat) : (standN n w &&& n.exits ≠ 0) ↔ Lg n w.reverse := by
  have z : ∀ j, (standN n w).testBit j = true ↔ Rw n w.reverse j := fun j => by
    rw [← standN_bit n w.reverse j, List.reverse_reverse]
  constructor
  · intro h
    obtain ⟨j, b⟩ := Nat.exists_testBit_of_ne_zero h
    rw [Nat.testBit_and, Bool.and_eq_true] at b
    exact ⟨j, (z j).mp b.1, b.2⟩
  · rintro ⟨j, a, b⟩ e
    have y := congrArg (fun x => x.testBit j) e
    simp only [Nat.testBit_and, (z j).mpr a, b] at y
    simp at y
theorem kind_takes {rs : List RowL} (h : ∀ r ∈ rs, ∀ x ∈ r, BndOk x) (w : List Nat) : (standN (kindN rs) w &&& (kindN rs).exits ≠ 0) ↔ KindF rs w := by
  rw [takes_bit, (kind_fit h).2, List.reverse_reverse]
end K14

set_option autoImplicit false
set_option maxErrors 4
namespace K14
open PySem PySem.Spec PyProof.Rows L2 Tl
/-! ### items, as they are reckoned -/
inductive Itm
  | fld (name : Str) (rows : List RowL)
  | mrk (text : Str)
  | grp (parts : List Itm)
mutual
/-- how deep groups lie -/
def depI : Itm → Nat
  | .fld _ _ => 0
  | .mrk _ => 0
  | .grp ps => 1 + depL ps
def depL : List Itm → Nat
  | [] => 0
  | i :: r => max (depI i) (depL r)
end
mutual
/-- how many places -/
def sizI : Itm → Nat
  | .fld _ rows => (kindN rows).chars.length
  | .mrk t => t.cps.size
  | .grp ps => sizL ps
def sizL : List Itm → Nat
  | [] => 0
  | i :: r => sizI i + sizL r
end
mutual
/-- the fields -/
def fdsI : Itm → List (Str × List RowL)
  | .fld n rows => [(n, rows)]
  | .mrk _ => []
  | .grp ps => fdsL ps
def fdsL : List Itm → List (Str × List RowL)
  | [] => []
  | i :: r => fdsI i ++ fdsL r
end
mutual
/-- who holds each place -/
def hldI : Itm → List (Option Str)
  | .fld n rows => List.replicate (kindN rows).chars.length (some n)
  | .mrk t => List.replicate t.cps.size none
  | .grp ps => hldL ps
def hldL : List Itm → List (Option Str)
  | [] => []
  | i :: r => hldI i ++ hldL r
end
def ownF : List Itm → Bool
  | [] => false
  | .fld _ _ :: _ => true
  | _ :: r => ownF r
/-- the net of a text -/
def textN (t : Str) : LNet := ⟨t.cps.toList.map fun c => ⟨#[c]⟩, ((List.range t.cps.size).map fun i => 1 <<< (1 + i)) ++ [0], 1 <<< t.cps.size⟩
def orN (n : LNet) : LNet := ⟨n.chars, n.follow, n.exits ||| 1⟩
mutual
def netI : Itm → LNet
  | .fld _ rows => kindN rows
  | .mrk t => textN t
  | .grp ps => orN (chainL (netsR ps))
def netsR : List Itm → List LNet
  | [] => []
  | i :: r => netI i :: netsR r
end
/-- marks beside each other are joined -/
def addJ (made : List Itm) (i : Itm) : List Itm :=
  match made.getLast?, i with
  | some (.mrk a), .mrk b => made.dropLast ++ [.mrk (a ++ b)]
  | _, _ => made ++ [i]
def joinJ (ps : List Itm) : List Itm := ps.foldl addJ []
instance : Inhabited Itm := ⟨.mrk ""⟩
/-- the text of a mark -/
structure MarkOk (z : Str) : Prop where
  lo : 1 ≤ z.cps.size
  hi : z.cps.size ≤ 200
  al : ∀ c ∈ z.cps.toList, c ∈ alpha
/-! on the heap -/
section
variable (FC MC YC KC NC : Addr) (HB H : Hp)
mutual
def ItmAt : Itm → Addr → Prop
  | .fld n rows, a => ∃ dx k, H a = some (.ins FC dx [("name", .str n), ("kind", .ref k)]) ∧ KindN KC NC HB H k rows ∧ (kindN rows).Ok ∧ (kindN rows).chars ≠ []
  | .mrk t, a => ∃ dx, H a = some (.ins MC dx [("text", .str t)]) ∧ MarkOk t
  | .grp ps, a => ∃ dx p xs, H a = some (.ins YC dx [("parts", .ref p)]) ∧ H p = some (.tup (xs.map V.ref)) ∧ ItmsAt ps xs ∧ ps.length ≤ 1000
def ItmsAt : List Itm → List Addr → Prop
  | [], xs => xs = []
  | i :: r, xs => ∃ a as, xs = a :: as ∧ ItmAt i a ∧ ItmsAt r as
end
end
section
variable {FC MC YC KC NC : Addr} {HB H H' : Hp}
mutual
theorem ItmAt.same (s : Same H H') : ∀ (i : Itm) (a : Addr), ItmAt FC MC YC KC NC HB H i a → ItmAt FC MC YC KC NC HB H' i a
  | .fld n rows, a, h => by
    obtain ⟨dx, k, h1, h2, h3⟩ := h
    exact ⟨dx, k, s _ _ h1, h2.same s, h3⟩
  | .mrk t, a, h => by
    obtain ⟨dx, h1, h2⟩ := h
    exact ⟨dx, s _ _ h1, h2⟩
  | .grp ps, a, h => by
    obtain ⟨dx, p, xs, h1, h2, h3, h4⟩ := h
    exact ⟨dx, p, xs, s _ _ h1, s _ _ h2, ItmsAt.same s ps xs h3, h4⟩
theorem ItmsAt.same (s : Same H H') : ∀ (ps : List Itm) (xs : List Addr), ItmsAt FC MC YC KC NC HB H ps xs → ItmsAt FC MC YC KC NC HB H' ps xs
  | [], xs, h => h
  | i :: r, xs, h => by
    obtain ⟨a, as, e, h1, h2⟩ := h
    exact ⟨a, as, e, ItmAt.same s i a h1, ItmsAt.same s r as h2⟩
end
theorem ItmsAt.length : ∀ {ps : List Itm} {xs : List Addr}, ItmsAt FC MC YC KC NC HB H ps xs → xs.length = ps.length
  | [], xs, h => by
    rw [show xs = [] from h]
    rfl
  | i :: r, xs, h => by
    obtain ⟨a, as, e, h1, h2⟩ := h
    rw [e, List.length_cons, List.length_cons, ItmsAt.length h2]
theorem ItmsAt.at : ∀ {ps : List Itm} {xs : List Addr}, ItmsAt FC MC YC KC NC HB H ps xs → ∀ {j : Nat} {i : Itm}, ps[j]? = some i → ∃ a, xs[j]? = some a ∧ ItmAt FC MC YC KC NC HB H i a
  | [], xs, h, j, i, e => by simp at e
  | i :: r, xs, h, j, i2, e => by
    obtain ⟨a, as, ex, h1, h2⟩ := h
    subst ex
    cases j with
    | zero =>
      cases e
      exact ⟨a, rfl, h1⟩
    | succ j => exact ItmsAt.at h2 e
theorem itms_of : ∀ {ps : List Itm} {xs : List Addr}, xs.length = ps.length → (∀ (j : Nat) (i : Itm) (a : Addr), ps[j]? = some i → xs[j]? = some a → ItmAt FC MC YC KC NC HB H i a) → ItmsAt FC MC YC KC NC HB H ps xs
  | [], xs, l, h => List.eq_nil_of_length_eq_zero l
  | i :: r, [], l, h => by cases l
  | i :: r, a :: as, l, h => ⟨a, as, rfl, h 0 i a rfl rfl, itms_of (Nat.succ.inj l) fun j i2 a2 h1 h2 => h (j + 1) i2 a2 h1 h2⟩
theorem ItmsAt.snoc {ps : List Itm} {xs : List Addr} {i : Itm} {a : Addr} (h : ItmsAt FC MC YC KC NC HB H ps xs) (hi : ItmAt FC MC YC KC NC HB H i a) : ItmsAt FC MC YC KC NC HB H (ps ++ [i]) (xs ++ [a]) := by
  induction ps generalizing xs with
  | nil =>
    rw [show xs = [] from h]
    exact ⟨a, [], rfl, hi, rfl⟩
  | cons x r ih =>
    obtain ⟨b, as, e, h1, h2⟩ := h
    subst e
    exact ⟨b, as ++ [a], rfl, h1, ih h2⟩
end
end K14

set_option autoImplicit false
set_option maxErrors 4
/-! min of a list of texts, of pairs of an int and a text, and by a key that gives such pairs. -/
namespace Tl
open PySem PySem.Spec PyProof.Rows L2
/-- a before b: the int decides, then the text -/
abbrev ltIS (a b : Int × Str) : Bool := PySem.W.DatumOrd.lt a b
abbrev ltS (a b : Str) : Bool := PySem.W.DatumOrd.lt a b
section
variable {α : Type} [DecidableEq α] [PySem.W.DatumOrd α]
theorem lt_irr (a : α) : PySem.W.DatumOrd.lt a a = false := by
  rw [← PySem.W.DatumOrd.lt_eq]
  exact PySem.W.dataLt_self _
theorem lt_tr {a b c : α} (h1 : PySem.W.DatumOrd.lt a b = true) (h2 : PySem.W.DatumOrd.lt b c = true) : PySem.W.DatumOrd.lt a c = true := by
  rw [← PySem.W.DatumOrd.lt_eq] at *
  exact PyProof.Rows.lex_trans _ _ _ h1 h2
theorem minOf_is (x : α) (xs : List α) : PySem.W.minOf x xs ∈ x :: xs ∧ ∀ y ∈ x :: xs, PySem.W.DatumOrd.lt y (PySem.W.minOf x xs) = false := by
  have key : ∀ (xs : List α) (a : α) (seen : List α), a ∈ seen → (∀ y ∈ seen, PySem.W.DatumOrd.lt y a = false) → (xs.foldl (fun a y => if PySem.W.DatumOrd.lt y a = true then y else a) a) ∈ seen ++ xs ∧ ∀ y ∈ seen ++ xs, PySem.W.DatumOrd.lt y (xs.foldl (fun a y => if PySem.W.DatumOrd.lt y a = true then y else a) a) = false := by
    intro xs
    induction xs with
    | nil =>
      intro a seen m h
      rw [List.append_nil]
      exact ⟨m, h⟩
    | cons z xs ih =>
      intro a seen m h
      have e : seen ++ z :: xs = (seen ++ [z]) ++ xs := by rw [List.append_assoc]; rfl
      rw [e, List.foldl_cons]
      refine ih _ _ ?_ ?_
      · split
        · exact List.mem_append_right _ (List.mem_singleton.mpr rfl)
        · exact List.mem_append_left _ m
      · intro y hy
        rcases List.mem_append.mp hy with hy | hy
        · split
          · rename_i hz
            cases hh : PySem.W.DatumOrd.lt y z with
            | false => rfl
            | true =>
              have := lt_tr hh hz
              rw [h y hy] at this
              cases this
          · exact h y hy
        · rw [List.mem_singleton.mp hy]
          split
          · exact lt_irr z
          · rename_i hz
            simpa using hz
  exact key xs x [x] List.mem_cons_self fun y hy => by rw [List.mem_singleton.mp hy]; exact lt_irr x
end
theorem nat_lt_anti : ∀ (l k : List Nat), ¬ l < k → ¬ k < l → l = k
  | [], [], _, _ => rfl
  | [], y :: k, h, _ => absurd (List.nil_lt_cons y k) h
  | x :: l, [], _, h => absurd (List.nil_lt_cons x l) h
  | x :: l, y :: k, h1, h2 => by
    rw [List.cons_lt_cons_iff] at h1 h2
    have e : x = y := by
      have a : ¬ x < y := fun z => h1 (.inl z)
      have b : ¬ y < x := fun z => h2 (.inl z)
      omega
    subst e
    rw [nat_lt_anti l k (fun z => h1 (.inr ⟨rfl, z⟩)) (fun z => h2 (.inr ⟨rfl, z⟩))]
theorem ltS_anti {a b : Str} (h1 : ltS a b = false) (h2 : ltS b a = false) : a = b := by
  have e := nat_lt_anti _ _ (of_decide_eq_false h1) (of_decide_eq_false h2)
  exact PySem.W.str_of_cps e
theorem ltIS_anti {a b : Int × Str} (h1 : ltIS a b = false) (h2 : ltIS b a = false) : a = b := by
  obtain ⟨a1, a2⟩ := a
  obtain ⟨b1, b2⟩ := b
  have h1 : (if a1 = b1 then ltS a2 b2 else decide (a1 < b1)) = false := h1
  have h2 : (if b1 = a1 then ltS b2 a2 else decide (b1 < a1)) = false := h2
  by_cases e : a1 = b1
  · subst e
    rw [if_pos rfl] at h1 h2
    rw [ltS_anti h1 h2]
  · rw [if_neg e] at h1
    rw [if_neg (Ne.symm e)] at h2
    have := of_decide_eq_false h1
    have := of_decide_eq_false h2
    omega
section
variable {X : Cx}
/-- min(xs), xs a list of texts -/
def rMinS (K : PySem.W.Frag) : List V → Hp → VK → Prop := fun vs H Q => ∃ (a : Addr) (xs : List Str), vs = [V.ref a] ∧ SqL K H a (xs.map V.str) ∧ xs ≠ [] ∧ ∀ m, m ∈ xs → (∀ y ∈ xs, ltS y m = false) → Q (.str m) H
theorem cr_minS (hc : X.calm = true) (hu : X.A.units + 10 < cLine) : CallR X (.builtin "min") (rMinS X.K) := by
  intro pins s σ H vs us Q I r h
  obtain ⟨a, xs, rfl, hs, ne, q⟩ := h
  obtain ⟨its, rv, hl, _⟩ := I.list hs
  rw [Vals.ref1 r]
  cases xs with
  | nil => exact absurd rfl ne
  | cons x xs =>
    obtain ⟨m1, m2⟩ := minOf_is x xs
    refine PySem.W.min_list_datum (x := x) (xs := xs) (I.ok.hd hc) hl.isList (PySem.W.HoldAll.of_strs rv.strs) (by have : PySem.W.Datum.depth Str = 0 := rfl; omega) fun i v h' tk hi hold hk => ?_
    obtain ⟨t, rfl⟩ := PySem.W.str_of_holds hold
    exact ⟨.str _, H, I.kept hk, ⟨_, rfl⟩, q _ m1 m2⟩
/-- a tuple of an int and a text -/
theorem holdP {pins : List (Addr × Obj)} {σ : L2.St} {H : Hp} {s : Shared} (I : Inv X pins σ H s) {t : Addr} {n : Int} {z : Str} (h : H t = some (.tup [.int n, .str z])) : PySem.W.Holds s.heap (.ref t) ((n, z) : Int × Str) := by
  obtain ⟨its, rv, hl, _⟩ := I.tuple (SqT.of h)
  cases rv with
  | cons r1 rv =>
    cases rv with
    | cons r2 rv =>
      cases rv
      obtain ⟨k1, rfl⟩ := r1
      obtain ⟨k2, rfl⟩ := r2
      exact PySem.W.holds_pair hl (PySem.W.holds_int _ _) (PySem.W.holds_str _ _)
/-- min(xs), xs a list of tuples of an int and a text -/
def rMinP (K : PySem.W.Frag) : List V → Hp → VK → Prop := fun vs H Q => ∃ (a : Addr) (ps : List ((Int × Str) × Addr)), vs = [V.ref a] ∧ SqL K H a (ps.map fun p => V.ref p.2) ∧ (∀ p ∈ ps, H p.2 = some (.tup [.int p.1.1, .str p.1.2])) ∧ ps ≠ [] ∧
  ∀ m, m ∈ ps → (∀ y ∈ ps, ltIS y.1 m.1 = false) → Q (.ref m.2) H
theorem cr_minP (hc : X.calm = true) (hu : X.A.units + 10 < cLine) : CallR X (.builtin "min") (rMinP X.K) := by
  intro pins s σ H vs us Q I r h
  obtain ⟨a, ps, rfl, hs, hp, ne, q⟩ := h
  obtain ⟨its, rv, hl, _⟩ := I.list hs
  rw [Vals.ref1 r]
  have all : PySem.W.HoldAll s.heap its (ps.map (·.1)) := by
    have key : ∀ (ps : List ((Int × Str) × Addr)) (its : List Value), Vals (ps.map fun p => V.ref p.2) its → (∀ p ∈ ps, H p.2 = some (.tup [.int p.1.1, .str p.1.2])) → PySem.W.HoldAll s.heap its (ps.map (·.1)) := by
      intro ps
      induction ps with
      | nil =>
        intro its rv _
        cases rv
        exact PySem.W.HoldAll.nil
      | cons p ps ih =>
        intro its rv hp
        cases rv with
        | cons r1 rv =>
          cases r1
          exact PySem.W.HoldAll.cons (holdP I (hp p List.mem_cons_self)) (ih _ rv fun y hy => hp y (List.mem_cons_of_mem _ hy))
    exact key ps its rv hp
  cases ps with
  | nil => exact absurd rfl ne
  | cons p0 ps0 =>
    rw [List.map_cons] at all
    obtain ⟨m1, m2⟩ := minOf_is p0.1 (ps0.map (·.1))
    refine PySem.W.min_list_datum (x := p0.1) (xs := ps0.map (·.1)) (I.ok.hd hc) hl.isList all (Nat.lt_of_le_of_lt (Nat.add_le_add_left (show _ ≤ 2 by decide) _) (by omega)) fun i v h' tk hi hold hk => ?_
    -- the value is one of the list
    have hi2 : its[i]? = some v := by simpa using hi
    have il : i < (p0 :: ps0).length := by
      have := (List.getElem?_eq_some_iff.mp hi2).1
      have l := rv.length
      rw [List.length_map] at l
      omega
    have ev : v = .ref (p0 :: ps0)[i].2 := by
      obtain ⟨u, hu1, hu2⟩ := rv.get (i := i) (x := V.ref (p0 :: ps0)[i].2) (by rw [List.getElem?_map, List.getElem?_eq_getElem il]; rfl)
      rw [hi2] at hu1
      cases hu1
      exact hu2
    subst ev
    have I2 : Inv X pins σ H { s with heap := h', toks := tk } := I.kept hk
    have hv := holdP I2 (hp _ (List.getElem_mem il))
    have em : (p0 :: ps0)[i].1 = PySem.W.minOf p0.1 (ps0.map (·.1)) := by
      obtain ⟨l1, a1, b1, e1, t1, ha1, hb1⟩ := PySem.W.pair_of_holds hv
      obtain ⟨l2, a2, b2, e2, t2, ha2, hb2⟩ := PySem.W.pair_of_holds hold
      cases e1
      cases e2
      obtain ⟨o1, g1, _, n1, d1⟩ := t1
      obtain ⟨o2, g2, _, n2, d2⟩ := t2
      rw [g1] at g2
      cases g2
      rw [d1] at d2
      cases d2
      obtain ⟨k1, f1⟩ := PySem.W.int_of_holds ha1
      obtain ⟨k2, f2⟩ := PySem.W.int_of_holds ha2
      obtain ⟨k3, f3⟩ := PySem.W.str_of_holds hb1
      obtain ⟨k4, f4⟩ := PySem.W.str_of_holds hb2
      rw [f1] at f2
      rw [f3] at f4
      injection f2 with f2
      injection f4 with f4
      exact Prod.ext f2 f4
    refine ⟨.ref _, H, I2, rfl, q _ (List.getElem_mem il) fun y hy => ?_⟩
    rw [em]
    exact m2 _ (by rw [← List.map_cons (f := fun x : (Int × Str) × Addr => x.1)]; exact List.mem_map.mpr ⟨y, hy, rfl⟩)
end
end Tl

set_option autoImplicit false
set_option maxErrors 4
/-! max(xs, default=d), xs a list of ints. -/
namespace Tl
open PySem PySem.Spec PyProof.Rows L2
theorem maxInt_is (x : Int) (xs : List Int) : PySem.W.maxOf x xs ∈ x :: xs ∧ ∀ y ∈ x :: xs, y ≤ PySem.W.maxOf x xs := by
  have key : ∀ (xs : List Int) (a : Int) (seen : List Int), a ∈ seen → (∀ y ∈ seen, y ≤ a) → (xs.foldl (fun a y => if PySem.W.DatumOrd.lt a y = true then y else a) a) ∈ seen ++ xs ∧ ∀ y ∈ seen ++ xs, y ≤ (xs.foldl (fun a y => if PySem.W.DatumOrd.lt a y = true then y else a) a) := by
    intro xs
    induction xs with
    | nil =>
      intro a seen m h
      rw [List.append_nil]
      exact ⟨m, h⟩
    | cons z xs ih =>
      intro a seen m h
      have e : seen ++ z :: xs = (seen ++ [z]) ++ xs := by rw [List.append_assoc]; rfl
      rw [e, List.foldl_cons]
      have lt : PySem.W.DatumOrd.lt a z = decide (a < z) := rfl
      by_cases c : a < z
      · rw [lt, decide_eq_true c, if_pos rfl]
        refine ih _ _ (List.mem_append_right _ (List.mem_singleton.mpr rfl)) fun y hy => ?_
        rcases List.mem_append.mp hy with hy | hy
        · have := h y hy
          omega
        · rw [List.mem_singleton.mp hy]
          exact Int.le_refl _
      · rw [lt, decide_eq_false c, if_neg (by simp)]
        refine ih _ _ (List.mem_append_left _ m) fun y hy => ?_
        rcases List.mem_append.mp hy with hy | hy
        · exact h y hy
        · rw [List.mem_singleton.mp hy]
          omega
  exact key xs x [x] List.mem_cons_self fun y hy => by rw [List.mem_singleton.mp hy]; exact Int.le_refl _
section
variable {X : Cx}
def rMaxD (K : PySem.W.Frag) : List V → List V → Hp → VK → Prop := fun vs zs H Q => ∃ (a : Addr) (ns : List Int) (d : Int), vs = [V.ref a] ∧ zs = [V.int d] ∧ SqL K H a (ns.map V.int) ∧ (ns = [] → Q (.int d) H) ∧ ∀ m ∈ ns, (∀ y ∈ ns, y ≤ m) → Q (.int m) H
theorem cr_maxDef (hc : X.calm = true) (hu : X.A.units + 10 < cLine) : CallRK X (.builtin "max") [Str.ofString "default"] (rMaxD X.K) := by
  intro pins s σ H vs zs us ws Q I r1 r2 h
  obtain ⟨a, ns, d, rfl, rfl, hs, q0, q⟩ := h
  obtain ⟨its, rv, hl, _⟩ := I.list hs
  rw [Vals.ref1 r1]
  cases r2 with
  | cons rd rn =>
    cases rn
    obtain ⟨kd, rfl⟩ := rd
    refine PySem.W.max_list_datum_default (α := Int) (xs := ns) (I.ok.hd hc) hl.isList (PySem.W.HoldAll.of_ints (intsAre_of rv)) (by have : PySem.W.Datum.depth Int = 0 := rfl; omega) (fun e h' tk hk => ?_) fun y ys i v h' tk e hi hold hk => ?_
    · exact ⟨.int d, H, I.kept hk, ⟨_, rfl⟩, q0 e⟩
    · obtain ⟨t, rfl⟩ := PySem.W.int_of_holds hold
      obtain ⟨m1, m2⟩ := maxInt_is y ys
      rw [← e] at m1 m2
      exact ⟨.int _, H, I.kept hk, ⟨_, rfl⟩, q _ m1 m2⟩
end
end Tl

set_option autoImplicit false
set_option maxErrors 4
/-! lists and tuples alike: for and comprehension over either -/
namespace Tl
open PySem PySem.Spec PyProof.Rows L2
/-- a list or a tuple -/
def RowV (H : Hp) (a : Addr) (xs : List V) : Prop := H a = some (.lst xs) ∨ H a = some (.tup xs)
theorem RowV.same {H H' : Hp} {a : Addr} {xs : List V} (h : RowV H a xs) (s : Same H H') : RowV H' a xs := h.imp (s _ _) (s _ _)
theorem sm_new {H : Hp} {p : Addr} {o : HO} (h : H p = none) : Same H (upd H p o) := fun b x e => by
  rw [upd_ne (ne_of_none e h)]
  exact e
theorem op_go {r : R2} {tl tr : TE} {σ : L2.St} {H : Hp} {Q : VK} (h : tl σ H fun x H1 => tr σ H1 fun y H2 => r x y H2 Q) : tOp r tl tr σ H Q := h
theorem ret_go {te : TE} {D : Ends} {σ : L2.St} {H : Hp} (h : te σ H D.rt) : tRet te D σ H := h
theorem tc_go {v : V} {σ : L2.St} {H : Hp} {Q : VK} (h : Q v H) : tC v σ H Q := h
theorem kw_go {r : List V → List V → Hp → VK → Prop} {ta : TE} {tk : TA} {σ : L2.St} {H : Hp} {Q : VK} (h : ta σ H fun x H1 => tk σ H1 fun ys H2 => r [x] ys H2 Q) : tCKw r (tCons ta tNil) tk σ H Q := h
section
variable {K : PySem.W.Frag} {a : Addr} {xs : List V} {i : Nat} {g : TG} {σ : L2.St} {H : Hp}
theorem for_seq {tb : TS} {D : Ends} {H0 : Hp} (hv : σ[i]? = some (some (.ref a))) (hr : RowV H0 a xs) (Pv : Nat → L2.St → Hp → Prop) (h0 : Pv 0 σ H) (hl : ∀ j σ' H', Pv j σ' H' → Same H0 H')
    (hs : ∀ j x σ' H', xs[j]? = some x → Pv j σ' H' → g x σ' H' fun σ2 H2 => tb { D with nx := Pv (j + 1), ct := Pv (j + 1), bk := D.nx } σ2 H2) (hd : ∀ σ' H', Pv xs.length σ' H' → D.nx σ' H') : tFor (iSeq K (tVar i)) g tb D σ H := by
  refine ⟨_, hv, a, rfl, ?_⟩
  rcases hr with h | h
  · exact .inl ⟨⟨_, SqL.of (hl _ _ _ h0 _ _ h)⟩, for_list Pv h0 (fun j σ' H' _ p => SqL.of (hl j σ' H' p _ _ h)) hs hd⟩
  · exact .inr ⟨⟨_, SqT.of (hl _ _ _ h0 _ _ h)⟩, for_tup Pv h0 (fun j σ' H' _ p => SqT.of (hl j σ' H' p _ _ h)) hs hd⟩
theorem lc_seq {tt : TT} {te : TE} {vs : List Nat} {Q : VK} (hv : σ[i]? = some (some (.ref a))) (hr : RowV H a xs) (Pv : Addr → Nat → Hp → Prop) (h0 : ∀ D, H D = none → Pv D 0 (upd H D (.lst []))) (hl : ∀ D j H', Pv D j H' → Same H H')
    (hs : ∀ D, H D = none → ∀ j x H', j < xs.length → xs[j]? = some x → Pv D j H' → g x (wipe σ vs) H' fun σ2 H2 => wipe σ2 vs = wipe σ vs ∧ tt σ2 H2 fun b H3 =>
      if b = true then te σ2 H3 fun y H4 => ∃ acc, H4 D = some (.lst acc) ∧ acc.length < sizeLine ∧ Pv D (j + 1) (upd H4 D (.lst (acc ++ [y]))) else Pv D (j + 1) H3)
    (hd : ∀ D, H D = none → ∀ H', Pv D xs.length H' → Q (.ref D) H') : tLc (iSeq K (tVar i)) g tt te vs σ H Q := by
  refine ⟨_, hv, a, rfl, ?_⟩
  rcases hr with h | h
  · refine .inl ⟨⟨_, SqL.of h⟩, fun D hD => lc_it (n := xs.length) (walk_list (K := K) (a := a) (xs := xs)) (Pv D) (h0 D hD) (fun j H' _ p => SqL.of (hl D j H' p _ _ h)) (fun j x H1 H' hj p y => ?_) (hd D hD)⟩
    obtain ⟨rfl, y⟩ := y
    exact hs D hD j x _ hj y p
  · refine .inr ⟨⟨_, SqT.of h⟩, fun D hD => lc_it (n := xs.length) (walk_tup (K := K) (a := a) (xs := xs)) (Pv D) (h0 D hD) (fun j H' _ p => SqT.of (hl D j H' p _ _ h)) (fun j x H1 H' hj p y => ?_) (hd D hD)⟩
    obtain ⟨rfl, y⟩ := y
    exact hs D hD j x _ hj y p
/-- a comprehension that tells a known value of each item -/
theorem lc_seqV {te : TE} {v : Nat} {vs : List Nat} {Q : VK} {f : Nat → V} (hv : σ[i]? = some (some (.ref a))) (hr : RowV H a xs) (hn : xs.length ≤ 1000000) (hw : ∀ x : V, wipe ((wipe σ vs).set v (some x)) vs = wipe σ vs)
    (hs : ∀ j x H' (R : VK), j < xs.length → xs[j]? = some x → Same H H' → (∀ H4, Same H' H4 → R (f j) H4) → te ((wipe σ vs).set v (some x)) H' R)
    (hd : ∀ D H', Same H H' → H D = none → H' D = some (.lst ((List.range xs.length).map f)) → Q (.ref D) H') : tLc (iSeq K (tVar i)) (gName v) tYes te vs σ H Q := by
  refine lc_seq hv hr (fun D j H' => H' D = some (.lst ((List.range j).map f)) ∧ Same H H') (fun D hD => ⟨upd_same, sm_new hD⟩) (fun D j H' p => p.2) (fun D hD j x H' hj hx p => ?_) fun D hD H' p => hd D H' p.2 hD p.1
  obtain ⟨e, sm⟩ := p
  refine ⟨hw x, yes_keep (hs j x H' _ hj hx sm fun H4 s4 => ⟨_, s4 _ _ e, ?_, ?_, fun b o z => ?_⟩)⟩
  · rw [List.length_map, List.length_range, sizeLine_eq]
    omega
  · rw [upd_same, List.range_succ, List.map_append]
    rfl
  · rw [upd_ne (ne_of_none z hD)]
    exact s4 _ _ (sm _ _ z)
end
end Tl

set_option autoImplicit false
set_option maxErrors 4
namespace K14
open PySem PySem.Spec PyProof.Rows L2 Tl
/-! ### the classes of items; what a name and a kind of a field are -/
theorem pe_no {X : Cx} {e : Expr} : PE X e (fun _ _ _ => False) := ⟨fun _ _ _ _ _ _ h => h.elim⟩
/-- the classes and the limits that items and forms ask -/
structure Town (K : PySem.W.Frag) (mg : Str → Option Value) (C KC NC FC MC YC OC : Addr) : Prop where
  fam : Fam K [C, KC, FC, MC, YC, OC]
  kd : KindC K KC
  net : NetC K NC
  gK : mg "Kind" = some (.ref KC)
  clF : Cls K FC
  clM : Cls K MC
  clY : Cls K YC
  clO : Cls K OC
  gF : mg "Field" = some (.ref FC)
  gM : mg "Mark" = some (.ref MC)
  gY : mg "Maybe" = some (.ref YC)
  gO : mg "Form" = some (.ref OC)
  nF1 : NoAttr K FC "name"
  nF2 : NoAttr K FC "kind"
  nM : NoAttr K MC "text"
  nY : NoAttr K YC "parts"
  nO1 : NoAttr K OC "lines"
  nO2 : NoAttr K OC "fields"
  nO3 : NoAttr K OC "net"
  nO4 : NoAttr K OC "holders"
  nO5 : NoAttr K OC "owner_sets"
  name : ∃ t, mg "LONGEST_NAME" = some (.int 12 t)
  mark : ∃ t, mg "LONGEST_MARK" = some (.int 200 t)
  deep : ∃ t, mg "DEEPEST_GROUP" = some (.int 3 t)
  size : ∃ t, mg "MOST_PLACES_items" = some (.int 200 t)
  lines : ∃ t, mg "MOST_LINES" = some (.int 10 t)
  fields : ∃ t, mg "MOST_FIELDS" = some (.int 12 t)
section
variable {P : Program} {w : World} {K : PySem.W.Frag} {mg : Str → Option Value} {base : Heap} {C KC NC FC MC YC OC : Addr}
theorem Town.kit (T : Town K mg C KC NC FC MC YC OC) {A B : Addr} (hA : A ∈ [C, KC, FC, MC, YC, OC]) (hB : B ∈ [C, KC, FC, MC, YC, OC]) : PySem.W.kitOne K (.ref A) (.ref B) = some (decide (A = B)) := T.fam.kit A hA B hB
theorem Town.ne (T : Town K mg C KC NC FC MC YC OC) : FC ≠ MC ∧ FC ≠ YC ∧ FC ≠ OC ∧ MC ≠ YC ∧ KC ≠ FC := by
  have z := T.fam.nd
  simp only [List.nodup_cons, List.mem_cons, List.not_mem_nil, or_false, not_or] at z
  obtain ⟨_, ⟨a1, _⟩, ⟨b1, b2, b3⟩, ⟨c1, _⟩, _⟩ := z
  exact ⟨b1, b2, b3, c1, a1⟩
theorem Town.own (T : Town K mg C KC NC FC MC YC OC) {A : Addr} (hA : A ∈ [C, KC, FC, MC, YC, OC]) : PySem.W.kitOne K (.ref A) (.ref A) = some true := by
  rw [T.kit hA hA, decide_eq_true rfl]
theorem Town.no (T : Town K mg C KC NC FC MC YC OC) {A B : Addr} (hA : A ∈ [C, KC, FC, MC, YC, OC]) (hB : B ∈ [C, KC, FC, MC, YC, OC]) (ne : A ≠ B) : PySem.W.kitOne K (.ref A) (.ref B) = some false := by
  rw [T.kit hA hB, decide_eq_false ne]
theorem mF : FC ∈ [C, KC, FC, MC, YC, OC] := by simp
theorem mM : MC ∈ [C, KC, FC, MC, YC, OC] := by simp
theorem mY : YC ∈ [C, KC, FC, MC, YC, OC] := by simp
theorem mK : KC ∈ [C, KC, FC, MC, YC, OC] := by simp
theorem mO : OC ∈ [C, KC, FC, MC, YC, OC] := by simp
theorem kit3 {t : Value} {c1 c2 c3 : Value} {b1 b2 b3 : Bool} (k1 : PySem.W.kitOne K t c1 = some b1) (k2 : PySem.W.kitOne K t c2 = some b2) (k3 : PySem.W.kitOne K t c3 = some b3) : PySem.W.kitAny K t [c1, c2, c3] = some (b1 || (b2 || b3)) := by
  unfold PySem.W.kitAny
  rw [k1]
  cases b1 with
  | true => rfl
  | false =>
    show PySem.W.kitAny K t [c2, c3] = _
    unfold PySem.W.kitAny
    rw [k2]
    cases b2 with
    | true => rfl
    | false =>
      show PySem.W.kitAny K t [c3] = _
      unfold PySem.W.kitAny
      rw [k3]
      cases b3 <;> rfl
def spSf0 : Sp := fun vs H Q _ => ∃ n : Addr, vs = [.ref n, .int 1, .str ""] ∧ Q (.int 1) H
set_option maxHeartbeats 20000000 in
theorem ok_sf0 {f : Addr} {fd : FuncData} (F : FnP K "stand_from" "stand_from" s_stand_from f fd)  : FnOk P w K mg base CX0 1 f fd ["net", "start", "text"] spSf0 := by
  have nd := sc_stand_from.nd
  refine F.ok sc_stand_from (fun vs H Q E h => ?_) (fun cdv A outer s H vs Q E hr h => ?_)
  · obtain ⟨n, rfl, q⟩ := h
    rfl
  · obtain ⟨n, rfl, q⟩ := h
    refine ⟨_, PSs.nox (pss_cons (ps_set (i := 3) nd rfl (.inl rfl) (pv 1)) (pss_cons (ps_for PassesOwn.never rfl (pi_str (pv 2)) (pg_name (i := 4) nd rfl (.inl rfl)) pss_never) (pss_one (ps_ret (pv 3))))), ?_⟩
    refine ⟨_, rfl, ?_⟩
    refine name_go ?_
    dsimp only
    refine seq_go ?_
    refine ⟨_, rfl, "", rfl, ?_⟩
    refine for_it (n := ("" : Str).cps.size) walk_str (fun i σ H' => ∃ x4, σ = [some (.ref n), some (.int 1), some (.str ""), some (.int 1), x4] ∧ H' = H) ⟨none, rfl, rfl⟩ (fun _ _ _ _ _ => True.intro) ?_ ?_
    · intro i x σ H1 H2 hi
      exact absurd hi (Nat.not_lt_zero i)
    · rintro σ H1 ⟨x4, rfl, rfl⟩
      exact ⟨_, rfl, q⟩
def spSa0 : Sp := fun vs H Q _ => ∃ n : Addr, vs = [.ref n, .str ""] ∧ Q (.int 1) H
set_option maxHeartbeats 20000000 in
theorem ok_sa0 {f : Addr} {fd : FuncData} (F : FnP K "stand_after" "stand_after" s_stand_after f fd) (gS : ∃ t, mg "START" = some (.int 1 t)) (C_stand_from : Can P w K mg base CX0 "stand_from" ["net", "start", "text"] 1 spSf0) : FnOk P w K mg base CX0 2 f fd ["net", "text"] spSa0 := by
  obtain ⟨f_stand_from, fd_stand_from, G_stand_from, g_stand_from, k_stand_from, b_stand_from⟩ := C_stand_from
  obtain ⟨tS, gS⟩ := gS
  refine F.ok sc_stand_after (fun vs H Q E h => ?_) (fun cdv A outer s H vs Q E hr h => ?_)
  · obtain ⟨n, rfl, q⟩ := h
    rfl
  · obtain ⟨n, rfl, q⟩ := h
    refine ⟨_, PSs.nox (pss_one (ps_ret (pe_call G_stand_from hr (by rfl) g_stand_from k_stand_from b_stand_from .nil pass0 (pa_cons (pv 0) (pa_cons (pe_glob (v := .int 1) (by rfl) gS ⟨_, rfl⟩) (pa_cons (pv 1) pa_nil)))))), ?_⟩
    exact ⟨_, rfl, _, rfl, n, rfl, q⟩

def spTk0 (NC : Addr) : Sp := fun vs H Q _ => ∃ (n : Addr) (N : LNet), vs = [.ref n, .str ""] ∧ NetAt NC H n N ∧ Q (.bl (decide (1 &&& N.exits ≠ 0))) H
set_option maxHeartbeats 20000000 in
theorem ok_tk0 {f : Addr} {fd : FuncData} (F : FnP K "takes" "takes" s_takes f fd) (T : Town K mg C KC NC FC MC YC OC) (C_stand_after : Can P w K mg base CX0 "stand_after" ["net", "text"] 2 spSa0) : FnOk P w K mg base CX0 3 f fd ["net", "text"] (spTk0 NC) := by
  obtain ⟨f_stand_after, fd_stand_after, G_stand_after, g_stand_after, k_stand_after, b_stand_after⟩ := C_stand_after
  refine F.ok sc_takes (fun vs H Q E h => ?_) (fun cdv A outer s H vs Q E hr h => ?_)
  · obtain ⟨n, N, rfl, at_, q⟩ := h
    rfl
  · obtain ⟨n, N, rfl, at_, q⟩ := h
    refine ⟨_, PSs.nox (pss_one (ps_ret (pe_cmpR op_ne (pe_op op_andNat (pe_call G_stand_after hr (by rfl) g_stand_after k_stand_after b_stand_after .nil pass0 (pa_cons (pv 0) (pa_cons (pv 1) pa_nil))) (pe_fld (pv 0) rfl)) pe_int (nomark _)))), ?_⟩
    obtain ⟨dx, c, fo, d, h1, h2, h3, h4⟩ := id at_
    refine ⟨_, rfl, _, rfl, n, rfl, _, rfl, n, NC, dx, _, _, rfl, h1, T.net.cl, T.net.n3, lkE, 1, N.exits, rfl, rfl, rfl, ?_⟩
    have e : (!decide (V.int ((1 &&& N.exits : Nat) : Int) = V.int 0)) = decide (1 &&& N.exits ≠ 0) := by
      by_cases z : 1 &&& N.exits = 0
      · rw [z]
        rfl
      · rw [decide_eq_true z, decide_eq_false (fun y => z (by have := V.int.inj y; omega))]
        rfl
    rw [e]
    exact q
def spHe (KC NC : Addr) : Sp := fun vs H Q _ => ∃ (k : Addr) (rows : List RowL), vs = [.ref k] ∧ KindAt KC NC H k rows ∧ Q (.bl (decide (1 &&& (kindN rows).exits ≠ 0))) H
set_option maxHeartbeats 20000000 in
theorem ok_he {f : Addr} {fd : FuncData} (F : FunD K "has_empty" "Kind.has_empty" (defArgs s_Kindhas_empty) (defBody s_Kindhas_empty) (defScope s_Kindhas_empty) [] [] f fd) (T : Town K mg C KC NC FC MC YC OC) (C_takes : Can P w K mg base CX0 "takes" ["net", "text"] 3 (spTk0 NC)) : FnOk P w K mg base CX0 4 f fd ["self"] (spHe KC NC) := by
  obtain ⟨f_takes, fd_takes, G_takes, g_takes, k_takes, b_takes⟩ := C_takes
  refine F.ok sc_Kindhas_empty (fun vs H Q E h => ?_) (fun cdv A outer s H vs Q E hr h => ?_)
  · obtain ⟨k, rows, rfl, _⟩ := h
    rfl
  · obtain ⟨k, rows, rfl, ⟨dx, t, n, rs, h1, h2, h3, h4, h5⟩, q⟩ := h
    refine ⟨_, PSs.nox (pss_one (ps_ret (pe_call G_takes hr (by rfl) g_takes k_takes b_takes .nil pass0 (pa_cons (pe_fld (pv 0) rfl) (pa_cons pe_str pa_nil))))), ?_⟩
    exact ⟨_, rfl, k, KC, dx, _, _, rfl, h1, T.kd.cl, T.kd.n2, (lk_ne (by decide +kernel)).trans lk_hit, n, _, rfl, h5, q⟩
def spRowL (K : PySem.W.Frag) : Sp := fun vs H Q _ => ∃ a xs, vs = [V.ref a] ∧ RowV H a xs ∧ Gives H Q (.bl true)
set_option maxHeartbeats 20000000 in
theorem ok_is_row {f : Addr} {fd : FuncData} (F : FnP K "is_row" "is_row" s_is_row f fd) (N : Nms mg) : FnOk P w K mg base CX0 1 f fd ["thing"] (spRowL K) := by
  refine F.ok sc_is_row (fun vs H Q E h => ?_) (fun cdv A outer s H vs Q E hr h => ?_)
  · obtain ⟨a, xs, rfl, ha, q⟩ := h
    rfl
  · obtain ⟨a, xs, rfl, ha, q⟩ := h
    refine ⟨_, PSs.nox (pss_one (ps_ret (pe_callB call_isiT (by rfl) N.isi (by decide +kernel) (pa_cons (pv 0) (pa_cons (pe_tup (pa_cons (pe_bltn (v := .ty "list") (by rfl) N.list (by decide +kernel) rfl) (pa_cons (pe_bltn (v := .ty "tuple") (by rfl) N.tuple (by decide +kernel) rfl) pa_nil))) pa_nil))))), ?_⟩
    refine ⟨_, rfl, line_small (by show 2 ≤ 16777216; decide), fun p hp => ?_⟩
    have sm := same_new (o := .tup [.ty "list", .ty "tuple"]) hp
    rcases ha with ha | ha
    · exact ⟨_, p, _, .type "list", [.type "list", .type "tuple"], true || false, rfl, upd_same, .cons (.ty "list") (.cons (.ty "tuple") .nil), .base (.lst (sm _ _ ha)), kit2 (kit_ty (by decide +kernel)) (kit_ty (by decide +kernel)), q _ sm⟩
    · exact ⟨_, p, _, .type "tuple", [.type "list", .type "tuple"], false || true, rfl, upd_same, .cons (.ty "list") (.cons (.ty "tuple") .nil), .base (.tup (sm _ _ ha)), kit2 (kit_ty (by decide +kernel)) (kit_ty (by decide +kernel)), q _ sm⟩
theorem lt_one {a b : Nat} : ([a] : List Nat) < [b] ↔ a < b := by simp [List.cons_lt_cons_iff]
/-- a name -/
structure NameOk (z : Str) : Prop where
  lo : 1 ≤ z.cps.size
  hi : z.cps.size ≤ 12
  az : ∀ c ∈ z.cps.toList, 97 ≤ c ∧ c ≤ 122
def spName : Sp := fun vs H Q _ => ∃ z, vs = [V.str z] ∧ NameOk z ∧ Gives H Q (.bl true)
set_option maxHeartbeats 20000000 in
theorem ok_is_name {f : Addr} {fd : FuncData} (F : FnP K "is_name" "is_name" s_is_name f fd) (T : Town K mg C KC NC FC MC YC OC) (N : Nms mg) : FnOk P w K mg base CX0 1 f fd ["thing"] spName := by
  obtain ⟨tN, gN⟩ := T.name
  have nd := sc_is_name.nd
  refine F.ok sc_is_name (fun vs H Q E h => ?_) (fun cdv A outer s H vs Q E hr h => ?_)
  · obtain ⟨z, rfl, q⟩ := h
    rfl
  · obtain ⟨z, rfl, ok, q⟩ := h
    refine ⟨_, PSs.nox (pss_cons (ps_if (PW.pt (pw_or (pt_not (pt_val (pe_callB call_isi (by rfl) N.isi (by decide +kernel) (pa_cons (pv 0) (pa_cons (pe_bltn (v := .ty "str") (by rfl) N.str (by decide +kernel) rfl) pa_nil))))) (pw_or1 (pt_not (pt_chain op_le op_le pe_int (pe_callB call_len_str (by rfl) N.len PySem.boot_len (pa_cons (pv 0) pa_nil)) (pe_glob (v := .int 12) (by rfl) gN ⟨_, rfl⟩)))))) (pss_one (ps_ret pe_bl)) pss_nil)
      (pss_one (ps_ret (pe_callB (cr_all rfl) (by rfl) N.all (by decide +kernel) (pa_cons (pe_lc (own := [("letter", 1)]) (g := gName 1) (tt := tYes) rfl nd (pi_str (pv 0)) (blkOk_by (N := ["thing", "letter"]) (sc := defScope s_is_name) (by decide +kernel)) (fun _ _ _ _ _ => pg_name (i := 1) nd rfl (Or.inl rfl)) (fun _ _ _ _ _ => pts_nil)
        (fun _ _ _ _ _ => pe_chain op_le_str op_le_str pe_str (pv 1) pe_str)) pa_nil))))), ?_⟩
    have l1 := ok.lo
    have l2 := ok.hi
    refine ⟨_, rfl, _, _, _, _, true, rfl, .ty "str", .base (.str _), kit_ty (by decide +kernel), _, rfl, iteF ?_⟩
    refine ⟨_, rfl, z, rfl, line_small (by show z.cps.size ≤ 16777216; omega), _, _, rfl, rfl, true, congrArg V.bl (decide_eq_true (show (1 : Int) ≤ ((z.cps.size : Nat) : Int) by omega)), iteT ?_⟩
    refine ⟨_, _, rfl, rfl, true, congrArg V.bl (decide_eq_true (show ((z.cps.size : Nat) : Int) ≤ 12 by omega)), iteF ?_⟩
    unfold tNext tRet
    dsimp only
    refine cb_one ?_
    have ez : z = tx z.cps.toList := by
      obtain ⟨c⟩ := z
      exact congrArg Str.mk (Array.toArray_toList).symm
    refine lc_tx (l := z.cps.toList) (p := fun _ => true) (f := fun n => V.bl true) (i := 1) (by rw [Array.length_toList]; omega) (fun Q' y => ⟨_, rfl, by rw [← ez] at y; exact y⟩) (fun _ => rfl) (fun n H2 Qb _ y => y) (fun n H2 Q' hn y => ?_) fun D hD => ?_
    · obtain ⟨a1, a2⟩ := ok.az n hn
      have e1 : (!decide ((sg n).cps.toList < (sg 97).cps.toList)) = true := by
        rw [decide_eq_false (fun z => by have := lt_one.mp (show [n] < [97] from z); omega)]
        rfl
      have e2 : (!decide ((sg 122).cps.toList < (sg n).cps.toList)) = true := by
        rw [decide_eq_false (fun z => by have := lt_one.mp (show [122] < [n] from z); omega)]
        rfl
      refine ⟨_, rfl, sg 97, sg n, rfl, rfl, true, congrArg V.bl e1, iteT ⟨sg n, sg 122, rfl, rfl, ?_⟩⟩
      rw [e2]
      exact y
    · refine ⟨D, z.cps.toList.map fun _ => true, rfl, SqL.of ?_, ?_⟩
      · rw [upd_same, List.filter_eq_self.mpr (fun _ _ => rfl), List.map_map]
        rfl
      · have e : ((z.cps.toList.map fun _ => true).all id) = true := List.all_eq_true.mpr fun x hx => by
          obtain ⟨_, _, rfl⟩ := List.mem_map.mp hx
          rfl
        rw [e]
        exact q _ (same_new hD)
def spFk (KC NC : Addr) : Sp := fun vs H Q _ => ∃ (k : Addr) (rows : List RowL), vs = [.ref k] ∧ KindAt KC NC H k rows ∧ 1 &&& (kindN rows).exits = 0 ∧ Q (.bl true) H
set_option maxHeartbeats 20000000 in
theorem ok_fk {f : Addr} {fd : FuncData} (F : FnP K "is_field_kind" "is_field_kind" s_is_field_kind f fd) (T : Town K mg C KC NC FC MC YC OC) (N : Nms mg) {pH fH : Addr} {fdH : FuncData} (PH : PropOf K KC "has_empty" pH fH) (GH : FnOk P w K mg base CX0 4 fH fdH ["self"] (spHe KC NC)) (bH : Binds K fdH ["self"] []) : FnOk P w K mg base CX0 6 f fd ["thing"] (spFk KC NC) := by
  refine F.ok sc_is_field_kind (fun vs H Q E h => ?_) (fun cdv A outer s H vs Q E hr h => ?_)
  · obtain ⟨k, rows, rfl, ka, q⟩ := h
    rfl
  · obtain ⟨k, rows, rfl, ka, no, q⟩ := h
    refine ⟨_, PSs.nox (pss_one (ps_ret (pe_and (pe_callB call_isi (by rfl) N.isi (by decide +kernel) (pa_cons (pv 0) (pa_cons (pe_glob (v := .ref KC) rfl T.gK rfl) pa_nil))) (pe_one (pe_not (pe_prop (pv 0) T.kd.cl PH GH hr bH .nil pass0 rfl)))))), ?_⟩
    obtain ⟨dx, t, n, rs, h1, h2, h3, h4, h5⟩ := id ka
    refine ⟨_, rfl, _, _, _, _, true, rfl, .own KC, (T.fam.sees KC mK).ty T.kd.cl h1, T.own mK, true, rfl, iteT ⟨_, rfl, k, dx, _, rfl, h1, k, rows, rfl, ka, _, rfl, ?_⟩⟩
    rw [decide_eq_false (fun z => z no)]
    exact q
def spFinit (FC KC NC : Addr) : Sp := fun vs H Q _ => ∃ (p dx k : Addr) (z : Str) (rows : List RowL), vs = [.ref p, .str z, .ref k] ∧ H p = some (.ins FC dx []) ∧ NameOk z ∧ KindAt KC NC H k rows ∧ 1 &&& (kindN rows).exits = 0 ∧ ∀ H', But p H H' → H' p = some (.ins FC dx [("name", .str z), ("kind", .ref k)]) → Q .non H'
set_option maxHeartbeats 20000000 in
theorem ok_f_init {f : Addr} {fd : FuncData} (F : FnP K "__init__" "Field.__init__" s_Field_init_ f fd) (T : Town K mg C KC NC FC MC YC OC) (C_is_name : Can P w K mg base CX0 "is_name" ["thing"] 1 spName) (C_is_field_kind : Can P w K mg base CX0 "is_field_kind" ["thing"] 6 (spFk KC NC)) : FnOk P w K mg base CX0 7 f fd ["self", "name", "kind"] (spFinit FC KC NC) := by
  obtain ⟨f_is_name, fd_is_name, G_is_name, g_is_name, k_is_name, b_is_name⟩ := C_is_name
  obtain ⟨f_is_field_kind, fd_is_field_kind, G_is_field_kind, g_is_field_kind, k_is_field_kind, b_is_field_kind⟩ := C_is_field_kind
  have nd := sc_Field_init_.nd
  refine F.ok sc_Field_init_ (fun vs H Q E h => ?_) (fun cdv A outer s H vs Q E hr h => ?_)
  · obtain ⟨p, dx, k, z, rows, rfl, hp, _⟩ := h
    rfl
  · obtain ⟨p, dx, k, z, rows, rfl, hp, ok, ka, no, q⟩ := h
    refine ⟨_, PSs.nox (pss_cons (ps_if (pt_not (pt_val (pe_call G_is_name (hr.mono (by decide)) (by rfl) g_is_name k_is_name b_is_name .nil pass0 (pa_cons (pv 1) pa_nil)))) (pss_one ps_never) pss_nil) (pss_cons (ps_if (pt_not (pt_val (pe_call G_is_field_kind hr (by rfl) g_is_field_kind k_is_field_kind b_is_field_kind .nil pass0 (pa_cons (pv 2) pa_nil)))) (pss_one ps_never) pss_nil) (pss_cons (ps_fld (pv 0) (pv 1) rfl) (pss_one (ps_fld (pv 0) (pv 2) rfl))))), ?_⟩
    refine ⟨_, rfl, z, rfl, ok, fun H1 s1 => ⟨_, rfl, iteF ?_⟩⟩
    refine ⟨_, rfl, k, rows, rfl, ka.same s1, no, _, rfl, iteF ?_⟩
    refine ⟨_, rfl, _, rfl, p, FC, dx, _, rfl, s1 _ _ hp, T.clF, T.nF1, (by show 0 < 1000; decide), ?_⟩
    refine ⟨_, rfl, _, rfl, p, FC, dx, _, rfl, upd_same, T.clF, T.nF2, (by show 1 < 1000; decide), ?_⟩
    refine q _ (fun x o e nx => ?_) ?_
    · rw [upd_over, upd_ne nx]
      exact s1 _ _ e
    · rw [upd_same]
      rfl
def spMinit (MC : Addr) : Sp := fun vs H Q _ => ∃ (p dx : Addr) (z : Str), vs = [.ref p, .str z] ∧ H p = some (.ins MC dx []) ∧ MarkOk z ∧ ∀ H', But p H H' → H' p = some (.ins MC dx [("text", .str z)]) → Q .non H'
set_option maxHeartbeats 20000000 in
theorem ok_m_init {f : Addr} {fd : FuncData} (F : FnP K "__init__" "Mark.__init__" s_Mark_init_ f fd) (T : Town K mg C KC NC FC MC YC OC) (N : Nms mg) (C_is_sign_text : Can P w K mg base CX0 "is_sign_text" ["thing"] 1 (spTextA K C)) : FnOk P w K mg base CX0 2 f fd ["self", "text"] (spMinit MC) := by
  obtain ⟨f_is_sign_text, fd_is_sign_text, G_is_sign_text, g_is_sign_text, k_is_sign_text, b_is_sign_text⟩ := C_is_sign_text
  obtain ⟨tN, gN⟩ := T.mark
  have nd := sc_Mark_init_.nd
  refine F.ok sc_Mark_init_ (fun vs H Q E h => ?_) (fun cdv A outer s H vs Q E hr h => ?_)
  · obtain ⟨p, dx, z, rfl, hp, q⟩ := h
    rfl
  · obtain ⟨p, dx, z, rfl, hp, ok, q⟩ := h
    refine ⟨_, PSs.nox (pss_cons (ps_if (PW.pt (pw_or (pt_not (pt_val (pe_call G_is_sign_text hr (by rfl) g_is_sign_text k_is_sign_text b_is_sign_text .nil pass0 (pa_cons (pv 1) pa_nil)))) (pw_or1 (pt_not (pt_chain op_le op_le pe_int (pe_callB call_len_str (by rfl) N.len PySem.boot_len (pa_cons (pv 1) pa_nil)) (pe_glob (v := .int 200) (by rfl) gN ⟨_, rfl⟩)))))) (pss_one ps_never) pss_nil) (pss_one (ps_fld (pv 0) (pv 1) rfl))), ?_⟩
    have l1 := ok.lo
    have l2 := ok.hi
    have ez : z = tx z.cps.toList := by
      obtain ⟨c⟩ := z
      exact congrArg Str.mk (Array.toArray_toList).symm
    refine ⟨_, rfl, .str (tx z.cps.toList), z.cps.toList.all fun n => decide (n ∈ alpha), by rw [← ez]; rfl, .txt (by rw [Array.length_toList]; omega), (fun a y => by cases y), fun H1 s1 => ⟨_, rfl, ?_⟩⟩
    have al : (z.cps.toList.all fun n => decide (n ∈ alpha)) = true := List.all_eq_true.mpr fun n hn => decide_eq_true (ok.al n hn)
    rw [al]
    refine iteF ?_
    refine ⟨_, rfl, z, rfl, line_small (by show z.cps.size ≤ 16777216; omega), _, _, rfl, rfl, true, congrArg V.bl (decide_eq_true (show (1 : Int) ≤ ((z.cps.size : Nat) : Int) by omega)), iteT ?_⟩
    refine ⟨_, _, rfl, rfl, true, congrArg V.bl (decide_eq_true (show ((z.cps.size : Nat) : Int) ≤ 200 by omega)), iteF ?_⟩
    refine ⟨_, rfl, _, rfl, p, MC, dx, _, rfl, s1 _ _ hp, T.clM, T.nM, (by show 0 < 1000; decide), ?_⟩
    refine q _ (fun x o e nx => ?_) upd_same
    rw [upd_ne nx]
    exact s1 _ _ e
end
end K14

set_option autoImplicit false
set_option maxErrors 4
namespace K14
open PySem PySem.Spec PyProof.Rows L2 Tl
/-! ### rows of items: what they are asked -/
def isF : Itm → Bool
  | .fld _ _ => true
  | _ => false
def isM : Itm → Bool
  | .mrk _ => true
  | _ => false
def isG : Itm → Bool
  | .grp _ => true
  | _ => false
theorem ownF_any : ∀ ps : List Itm, ownF ps = ps.any isF
  | [] => rfl
  | .fld n r :: ps => rfl
  | .mrk t :: ps => by
    show ownF ps = (false || ps.any isF)
    rw [Bool.false_or, ownF_any ps]
  | .grp qs :: ps => by
    show ownF ps = (false || ps.any isF)
    rw [Bool.false_or, ownF_any ps]
theorem range_get {α : Type} (h : Itm → α) (ps : List Itm) : (List.range ps.length).map (fun j => h (ps.getD j default)) = ps.map h := by
  refine List.ext_getElem (by simp) fun j h1 h2 => ?_
  rw [List.length_map, List.length_range] at h1
  rw [List.getElem_map, List.getElem_range, List.getElem_map, List.getD_eq_getElem?_getD, List.getElem?_eq_getElem h1]
  rfl
def clsI (FC MC YC : Addr) : Itm → Addr
  | .fld _ _ => FC
  | .mrk _ => MC
  | .grp _ => YC
section
variable {P : Program} {w : World} {K : PySem.W.Frag} {mg : Str → Option Value} {base : Heap} {C KC NC FC MC YC OC : Addr} {HB H : Hp}
theorem mcI (i : Itm) : clsI FC MC YC i ∈ [C, KC, FC, MC, YC, OC] := by
  cases i <;> simp [clsI]
theorem ItmAt.ty (T : Town K mg C KC NC FC MC YC OC) {i : Itm} {a : Addr} (h : ItmAt FC MC YC KC NC HB H i a) : TyX K H (.ref a) (.ref (clsI FC MC YC i)) := by
  cases i with
  | fld n r =>
    obtain ⟨dx, k, h1, _⟩ := h
    exact (T.fam.sees FC mF).ty T.clF h1
  | mrk t =>
    obtain ⟨dx, h1, _⟩ := h
    exact (T.fam.sees MC mM).ty T.clM h1
  | grp ps =>
    obtain ⟨dx, p, xs, h1, _⟩ := h
    exact (T.fam.sees YC mY).ty T.clY h1
theorem Town.kF (T : Town K mg C KC NC FC MC YC OC) (i : Itm) : PySem.W.kitOne K (.ref (clsI FC MC YC i)) (.ref FC) = some (isF i) := by
  cases i with
  | fld n r => exact T.own mF
  | mrk t => exact T.no mM mF (Ne.symm T.ne.1)
  | grp ps => exact T.no mY mF (Ne.symm T.ne.2.1)
theorem Town.kM (T : Town K mg C KC NC FC MC YC OC) (i : Itm) : PySem.W.kitOne K (.ref (clsI FC MC YC i)) (.ref MC) = some (isM i) := by
  cases i with
  | fld n r => exact T.no mF mM T.ne.1
  | mrk t => exact T.own mM
  | grp ps => exact T.no mY mM (Ne.symm T.ne.2.2.2.1)
theorem Town.kG (T : Town K mg C KC NC FC MC YC OC) (i : Itm) : PySem.W.kitOne K (.ref (clsI FC MC YC i)) (.ref YC) = some (isG i) := by
  cases i with
  | fld n r => exact T.no mF mY T.ne.2.1
  | mrk t => exact T.no mM mY T.ne.2.2.2.1
  | grp ps => exact T.own mY
/-- a list or a tuple of items -/
def RowI (FC MC YC KC NC : Addr) (HB H : Hp) (a : Addr) (ps : List Itm) : Prop := ∃ xs : List Addr, RowV H a (xs.map V.ref) ∧ ItmsAt FC MC YC KC NC HB H ps xs ∧ ps.length ≤ 1000
theorem RowI.same {H' : Hp} {a : Addr} {ps : List Itm} (h : RowI FC MC YC KC NC HB H a ps) (s : Same H H') : RowI FC MC YC KC NC HB H' a ps := by
  obtain ⟨xs, h1, h2, h3⟩ := h
  exact ⟨xs, h1.same s, ItmsAt.same s _ _ h2, h3⟩
theorem ItmsAt.elt {ps : List Itm} {xs : List Addr} (h : ItmsAt FC MC YC KC NC HB H ps xs) {j : Nat} {x : V} (hx : (xs.map V.ref)[j]? = some x) : ∃ i a, x = .ref a ∧ ps[j]? = some i ∧ ps.getD j default = i ∧ xs[j]? = some a ∧ ItmAt FC MC YC KC NC HB H i a := by
  rw [List.getElem?_map] at hx
  cases ha : xs[j]? with
  | none =>
    rw [ha] at hx
    cases hx
  | some a =>
    rw [ha] at hx
    cases hx
    obtain ⟨hj, _⟩ := List.getElem?_eq_some_iff.mp ha
    rw [h.length] at hj
    have hi : ps[j]? = some ps[j] := List.getElem?_eq_getElem hj
    obtain ⟨b, hb, hI⟩ := h.at hi
    rw [ha] at hb
    cases hb
    exact ⟨ps[j], a, rfl, hi, by rw [List.getD_eq_getElem?_getD, hi]; rfl, rfl, hI⟩
def spItem (FC MC YC KC NC : Addr) (HB : Hp) : Sp := fun vs H Q _ => ∃ (i : Itm) (a : Addr), vs = [.ref a] ∧ ItmAt FC MC YC KC NC HB H i a ∧ Gives H Q (.bl true)
set_option maxHeartbeats 20000000 in
theorem ok_is_item {f : Addr} {fd : FuncData} (F : FnP K "is_item" "is_item" s_is_item f fd) (T : Town K mg C KC NC FC MC YC OC) (N : Nms mg) : FnOk P w K mg base CX0 1 f fd ["thing"] (spItem FC MC YC KC NC HB) := by
  refine F.ok sc_is_item (fun vs H Q E h => ?_) (fun cdv A outer s H vs Q E hr h => ?_)
  · obtain ⟨i, a, rfl, _⟩ := h
    rfl
  · obtain ⟨i, a, rfl, hI, q⟩ := h
    refine ⟨_, PSs.nox (pss_one (ps_ret (pe_callB call_isiT (by rfl) N.isi (by decide +kernel) (pa_cons (pv 0) (pa_cons (pe_tup (pa_cons (pe_glob (v := .ref FC) rfl T.gF rfl) (pa_cons (pe_glob (v := .ref MC) rfl T.gM rfl) (pa_cons (pe_glob (v := .ref YC) rfl T.gY rfl) pa_nil)))) pa_nil))))), ?_⟩
    refine ⟨_, rfl, line_small (by show 3 ≤ 16777216; decide), fun p hp => ?_⟩
    have sm := same_new (o := .tup [V.ref FC, V.ref MC, V.ref YC]) hp
    refine ⟨_, p, _, .ref (clsI FC MC YC i), [.ref FC, .ref MC, .ref YC], isF i || (isM i || isG i), rfl, upd_same, .cons (.own FC) (.cons (.own MC) (.cons (.own YC) .nil)), ItmAt.ty T (ItmAt.same sm i a hI), kit3 (T.kF i) (T.kM i) (T.kG i), ?_⟩
    have e : (isF i || (isM i || isG i)) = true := by cases i <;> rfl
    rw [e]
    exact q _ sm
def spHasOwn (FC MC YC KC NC : Addr) (HB : Hp) : Sp := fun vs H Q _ => ∃ (r : Addr) (ps : List Itm), vs = [.ref r] ∧ RowI FC MC YC KC NC HB H r ps ∧ Gives H Q (.bl (ownF ps))
set_option maxHeartbeats 20000000 in
theorem ok_own_f {f : Addr} {fd : FuncData} (F : FnP K "has_own_field" "has_own_field" s_has_own_field f fd) (T : Town K mg C KC NC FC MC YC OC) (N : Nms mg) : FnOk P w K mg base CX0 1 f fd ["row"] (spHasOwn FC MC YC KC NC HB) := by
  have nd := sc_has_own_field.nd
  refine F.ok sc_has_own_field (fun vs H Q E h => ?_) (fun cdv A outer s H vs Q E hr h => ?_)
  · obtain ⟨r, ps, rfl, _⟩ := h
    rfl
  · obtain ⟨r, ps, rfl, ⟨xs, hrow, hI, hl⟩, q⟩ := h
    refine ⟨_, PSs.nox (pss_one (ps_ret (pe_callB (cr_any rfl) (by rfl) N.any (by decide +kernel) (pa_cons (pe_lc (own := [("item", 1)]) (g := gName 1) (tt := tYes) rfl nd (pi_seq (pv 0)) (blkOk_by (N := ["row", "item"]) (sc := defScope s_has_own_field) (by decide +kernel)) (fun _ _ _ _ _ => pg_name (i := 1) nd rfl (Or.inl rfl)) (fun _ _ _ _ _ => pts_nil) (fun _ _ _ _ _ => (pe_callB (r := rIsi K) call_isi (by rfl) N.isi (by decide +kernel) (pa_cons (pv 1) (pa_cons (pe_glob (v := .ref FC) rfl T.gF rfl) pa_nil))))) pa_nil)))), ?_⟩
    have lx : (xs.map V.ref).length = ps.length := by rw [List.length_map, hI.length]
    refine cb_one ?_
    refine lc_seqV (K := K) (v := 1) (f := fun j => V.bl (isF (ps.getD j default))) rfl hrow (by rw [lx]; omega) (fun _ => rfl) (fun j x H' R hj hx sm r => ?_) fun D H' sm nD eD => ?_
    · obtain ⟨i, a, rfl, _, ei, _, hi⟩ := hI.elt hx
      rw [ei] at r
      exact ⟨_, rfl, _, _, _, _, isF i, rfl, .own FC, ItmAt.ty T (ItmAt.same sm i a hi), T.kF i, r H' (Same.refl _)⟩
    · rw [lx, range_get (fun i => V.bl (isF i))] at eD
      refine ⟨D, ps.map isF, rfl, SqL.of (by rw [eD, List.map_map]; rfl), ?_⟩
      have e : ((ps.map isF).any id) = ownF ps := by rw [ownF_any, List.any_map]; rfl
      rw [e]
      exact q H' sm
/-! depth -/
theorem depL_le {i : Itm} : ∀ {ps : List Itm}, i ∈ ps → depI i ≤ depL ps
  | x :: r, h => by
    rcases List.mem_cons.mp h with rfl | h
    · exact Nat.le_max_left _ _
    · exact Nat.le_trans (depL_le h) (Nat.le_max_right _ _)
/-- the depths of the groups -/
def gds (ps : List Itm) : List Nat := (ps.filter isG).map depI
theorem gds_max : ∀ ps : List Itm, (∀ m ∈ gds ps, m ≤ depL ps) ∧ (gds ps = [] → depL ps = 0) ∧ (gds ps ≠ [] → depL ps ∈ gds ps)
  | [] => ⟨fun m h => by simp [gds] at h, fun _ => rfl, fun h => absurd rfl h⟩
  | i :: r => by
    obtain ⟨a, b, c⟩ := gds_max r
    cases i with
    | fld n x =>
      have e : gds (.fld n x :: r) = gds r := rfl
      have d : depL (.fld n x :: r) = depL r := Nat.zero_max _
      rw [e, d]
      exact ⟨a, b, c⟩
    | mrk t =>
      have e : gds (.mrk t :: r) = gds r := rfl
      have d : depL (.mrk t :: r) = depL r := Nat.zero_max _
      rw [e, d]
      exact ⟨a, b, c⟩
    | grp qs =>
      have e : gds (.grp qs :: r) = depI (.grp qs) :: gds r := rfl
      have d : depL (.grp qs :: r) = max (depI (.grp qs)) (depL r) := rfl
      rw [e, d]
      refine ⟨fun m h => ?_, (fun h => by cases h), fun _ => ?_⟩
      · rcases List.mem_cons.mp h with rfl | h
        · exact Nat.le_max_left _ _
        · exact Nat.le_trans (a m h) (Nat.le_max_right _ _)
      · by_cases z : gds r = []
        · rw [b z, Nat.max_zero]
          exact List.mem_cons_self
        · rcases Nat.le_total (depI (.grp qs)) (depL r) with l | l
          · rw [Nat.max_eq_right l]
            exact List.mem_cons_of_mem _ (c z)
          · rw [Nat.max_eq_left l]
            exact List.mem_cons_self
def spDepth (FC MC YC KC NC : Addr) (HB : Hp) (d : Nat) : Sp := fun vs H Q _ => ∃ (r : Addr) (ps : List Itm), vs = [.ref r] ∧ RowI FC MC YC KC NC HB H r ps ∧ depL ps < d ∧ Gives H Q (.int ((1 + depL ps : Nat) : Int))
set_option maxHeartbeats 20000000 in
theorem ok_depth {f : Addr} {fd : FuncData} (F : FnP K "depth_around" "depth_around" s_depth_around f fd) (T : Town K mg C KC NC FC MC YC OC) (N : Nms mg) (g : mg "depth_around" = some (.ref f)) (k : PySem.W.keepIn K (.ref f) = true) (b : Binds K fd ["parts"] []) :
    ∀ d, FnOk P w K mg base CX0 d f fd ["parts"] (spDepth FC MC YC KC NC HB d)
  | 0 => ⟨fun vs H Q E h => (by obtain ⟨r, ps, _, _, h, _⟩ := h; omega), fun A outer s H args us vs Q E _ _ _ _ h => (by obtain ⟨r, ps, _, _, h, _⟩ := h; omega)⟩
  | d + 1 => by
    have G := ok_depth F T N g k b d
    have nd := sc_depth_around.nd
    refine F.ok sc_depth_around (fun vs H Q E h => ?_) (fun cdv A outer s H vs Q E hr h => ?_)
    · obtain ⟨r, ps, rfl, _⟩ := h
      rfl
    · obtain ⟨r, ps, rfl, ⟨xs, hrow, hI, hl⟩, hd, q⟩ := h
      have hu : (A.deeper (envOfC "depth_around" (defScope s_depth_around) s.heap.objs.size f cdv)).units + 10 < cLine := by have := hr.un; omega
      refine ⟨_, PSs.nox (pss_one (ps_ret (pe_op op_add pe_int (pe_callBK (cr_maxDef rfl hu) (by rfl) N.max (by decide +kernel) (pa_cons (pe_lc (own := [("part", 1)]) (g := gName 1) (te := tCall (spDepth FC MC YC KC NC HB d) [] E0 (tCons (tFld K (tVar 1) "parts") tNil)) rfl nd (pi_seq (pv 0)) (blkOk_by (N := ["parts", "part"]) (sc := defScope s_depth_around) (by decide +kernel)) (fun _ _ _ _ _ => pg_name (i := 1) nd rfl (Or.inl rfl)) (fun _ _ _ _ _ => pts_one (pt_val (pe_callB (r := rIsi K) call_isi (by rfl) N.isi (by decide +kernel) (pa_cons (pv 1) (pa_cons (pe_glob (v := .ref YC) rfl T.gY rfl) pa_nil)))))
          (fun _ _ _ _ _ => pe_call G hr (by rfl) g k b .nil pass0 (pa_cons (pe_fld (pv 1) rfl) pa_nil))) pa_nil) (pk_cons pe_int pk_nil))))), ?_⟩
      have lx : (xs.map V.ref).length = ps.length := by rw [List.length_map, hI.length]
      refine ret_go (op_go (tc_go (kw_go ?_)))
      refine lc_seq (K := K) rfl hrow (fun D j H' => H' D = some (.lst ((gds (ps.take j)).map fun m => V.int (m : Nat))) ∧ Same H H') (fun D hD => ⟨upd_same, same_new hD⟩) (fun D j H' p => p.2) (fun D hD j x H' hj hx p => ?_) fun D hD H' p => ?_
      · obtain ⟨e, sm⟩ := p
        obtain ⟨i, a, rfl, hi, _, _, hA⟩ := hI.elt hx
        have mem := List.mem_of_getElem? hi
        have tk : gds (ps.take (j + 1)) = gds (ps.take j) ++ gds [i] := by
          unfold gds
          rw [List.take_add_one, hi, List.filter_append, List.map_append]
          rfl
        have hA2 := ItmAt.same sm i a hA
        refine ⟨rfl, ?_⟩
        refine ⟨_, rfl, _, _, _, _, isG i, rfl, .own YC, ItmAt.ty T hA2, T.kG i, _, rfl, ?_⟩
        cases i with
        | fld n x =>
          refine iteF ⟨?_, sm⟩
          rw [tk]
          exact (congrArg (fun l => some (HO.lst (l.map fun m => V.int (m : Nat)))) (List.append_nil _)).symm ▸ e
        | mrk t =>
          refine iteF ⟨?_, sm⟩
          rw [tk]
          exact (congrArg (fun l => some (HO.lst (l.map fun m => V.int (m : Nat)))) (List.append_nil _)).symm ▸ e
        | grp qs =>
          obtain ⟨dx, p, ys, h1, h2, h3, h4⟩ := id hA2
          have dq : 1 + depL qs ≤ depL ps := depL_le mem
          refine iteT ?_
          refine ⟨_, rfl, a, YC, dx, _, _, rfl, h1, T.clY, T.nY, lk_hit, p, qs, rfl, ⟨ys, .inr h2, h3, h4⟩, by omega, fun H4 s4 => ?_⟩
          refine ⟨_, s4 _ _ e, ?_, ?_, fun b o z => ?_⟩
          · have l1 : (gds (ps.take j)).length ≤ 1000 := by
              unfold gds
              rw [List.length_map]
              have z := List.length_filter_le isG (ps.take j)
              rw [List.length_take] at z
              omega
            rw [List.length_map, sizeLine_eq]
            omega
          · rw [upd_same, tk, List.map_append]
            rfl
          · rw [upd_ne (ne_of_none z hD)]
            exact s4 _ _ (sm _ _ z)
      · obtain ⟨e, sm⟩ := p
        rw [lx, List.take_of_length_le (Nat.le_refl _)] at e
        obtain ⟨m1, m2, m3⟩ := gds_max ps
        refine ⟨D, (gds ps).map fun m => ((m : Nat) : Int), 0, rfl, rfl, SqL.of (by rw [e, List.map_map]; rfl), fun z => ?_, fun m hm hall => ?_⟩
        · have z2 : gds ps = [] := List.map_eq_nil_iff.mp z
          have q2 := q H' sm
          rw [m2 z2] at q2
          exact ⟨_, _, rfl, rfl, q2⟩
        · obtain ⟨n, hn, rfl⟩ := List.mem_map.mp hm
          have ne : gds ps ≠ [] := fun z => by rw [z] at hn; cases hn
          have e1 : n = depL ps := Nat.le_antisymm (m1 n hn) (by
            have := hall _ (List.mem_map.mpr ⟨_, m3 ne, rfl⟩)
            omega)
          refine ⟨_, _, rfl, rfl, ?_⟩
          have e2 : (1 : Int) + ((n : Nat) : Int) = ((1 + depL ps : Nat) : Int) := by omega
          show Q (V.int ((1 : Int) + ((n : Nat) : Int))) H'
          rw [e2]
          exact q H' sm
end
end K14

set_option autoImplicit false
set_option maxErrors 4
namespace K14
open PySem PySem.Spec PyProof.Rows L2 Tl
/-! ### sizes; fields -/
theorem sizL_map : ∀ ps : List Itm, (ps.map sizI).sum = sizL ps
  | [] => rfl
  | i :: r => by
    show sizI i + (r.map sizI).sum = sizI i + sizL r
    rw [sizL_map r]
theorem sumI_nat (ns : List Nat) : (ns.map fun n => ((n : Nat) : Int)).sum = ((ns.sum : Nat) : Int) := by
  induction ns with
  | nil => rfl
  | cons n ns ih =>
    rw [List.map_cons, List.sum_cons, List.sum_cons, ih]
    omega
section
variable {P : Program} {w : World} {K : PySem.W.Frag} {mg : Str → Option Value} {base : Heap} {C KC NC FC MC YC OC : Addr} {HB H : Hp}
def spIsz (FC MC YC KC NC : Addr) (HB : Hp) (d : Nat) : Sp := fun vs H Q _ => ∃ (i : Itm) (a : Addr), vs = [.ref a] ∧ ItmAt FC MC YC KC NC HB H i a ∧ depI i ≤ d ∧ Gives H Q (.int ((sizI i : Nat) : Int))
def spRsz (FC MC YC KC NC : Addr) (HB : Hp) (d : Nat) : Sp := fun vs H Q _ => ∃ (r : Addr) (ps : List Itm), vs = [.ref r] ∧ RowI FC MC YC KC NC HB H r ps ∧ depL ps < d ∧ Gives H Q (.int ((sizL ps : Nat) : Int))
set_option maxHeartbeats 20000000 in
theorem ok_isz {d : Nat} {f fR : Addr} {fd fdR : FuncData} (F : FnP K "item_size" "item_size" s_item_size f fd) (T : Town K mg C KC NC FC MC YC OC) (N : Nms mg) (GR : FnOk P w K mg base CX0 (2 * d) fR fdR ["row"] (spRsz FC MC YC KC NC HB d)) (gR : mg "row_size" = some (.ref fR)) (kR : PySem.W.keepIn K (.ref fR) = true) (bR : Binds K fdR ["row"] []) :
    FnOk P w K mg base CX0 (2 * d + 1) f fd ["item"] (spIsz FC MC YC KC NC HB d) := by
  refine F.ok sc_item_size (fun vs H Q E h => ?_) (fun cdv A outer s H vs Q E hr h => ?_)
  · obtain ⟨i, a, rfl, _⟩ := h
    rfl
  · obtain ⟨i, a, rfl, hI, hd, q⟩ := h
    refine ⟨_, PSs.nox (pss_cons (ps_if (pt_val (pe_callB call_isi (by rfl) N.isi (by decide +kernel) (pa_cons (pv 0) (pa_cons (pe_glob (v := .ref FC) rfl T.gF rfl) pa_nil)))) (pss_one (ps_ret (pe_callB call_len_seq (by rfl) N.len PySem.boot_len (pa_cons (pe_fld (pe_fld (pe_fld (pv 0) rfl) rfl) rfl) pa_nil)))) pss_nil)
      (pss_cons (ps_if (pt_val (pe_callB call_isi (by rfl) N.isi (by decide +kernel) (pa_cons (pv 0) (pa_cons (pe_glob (v := .ref MC) rfl T.gM rfl) pa_nil)))) (pss_one (ps_ret (pe_callB call_len_str (by rfl) N.len PySem.boot_len (pa_cons (pe_fld (pv 0) rfl) pa_nil)))) pss_nil)
      (pss_one (ps_ret (pe_call GR hr (by rfl) gR kR bR .nil pass0 (pa_cons (pe_fld (pv 0) rfl) pa_nil)))))), ?_⟩
    have ty := ItmAt.ty T hI
    refine ⟨_, rfl, _, _, _, _, isF i, rfl, .own FC, ty, T.kF i, isF i, rfl, ?_⟩
    cases i with
    | fld n rows =>
      obtain ⟨dx, k, h1, h2, _⟩ := hI
      obtain ⟨dk, t, m, rs, k1, k2, k3, k4, k5⟩ := h2
      obtain ⟨dn, c, fo, dd, n1, n2, n3, n4⟩ := k5.at
      refine iteT ?_
      refine ⟨_, rfl, a, FC, dx, _, _, rfl, h1, T.clF, T.nF2, (lk_ne (by decide +kernel)).trans lk_hit, k, KC, dk, _, _, rfl, k1, T.kd.cl, T.kd.n2, (lk_ne (by decide +kernel)).trans lk_hit, m, NC, dn, _, _, rfl, n1, T.net.cl, T.net.n1, lk_hit, c, _, rfl, .inl (SqL.of n2), ?_⟩
      have e : (strsV (kindN rows).chars).length = sizI (.fld n rows) := List.length_map _
      rw [e]
      exact q H (Same.refl _)
    | mrk t =>
      obtain ⟨dx, h1, ok⟩ := hI
      refine iteF ?_
      refine ⟨_, rfl, _, _, _, _, true, rfl, .own MC, ty, T.own mM, true, rfl, iteT ?_⟩
      exact ⟨_, rfl, a, MC, dx, _, _, rfl, h1, T.clM, T.nM, lk_hit, t, rfl, line_small (by have := ok.hi; show t.cps.size ≤ 16777216; omega), q H (Same.refl _)⟩
    | grp ps =>
      obtain ⟨dx, p, xs, h1, h2, h3, h4⟩ := hI
      refine iteF ?_
      refine ⟨_, rfl, _, _, _, _, false, rfl, .own MC, ty, T.no mY mM (Ne.symm T.ne.2.2.2.1), false, rfl, iteF ?_⟩
      have hd : 1 + depL ps ≤ d := hd
      exact ⟨_, rfl, a, YC, dx, _, _, rfl, h1, T.clY, T.nY, lk_hit, p, ps, rfl, ⟨xs, .inr h2, h3, h4⟩, by omega, q⟩
set_option maxHeartbeats 20000000 in
theorem ok_rsz {d : Nat} {f fI : Addr} {fd fdI : FuncData} (F : FnP K "row_size" "row_size" s_row_size f fd) (N : Nms mg) (GI : FnOk P w K mg base CX0 (2 * d + 1) fI fdI ["item"] (spIsz FC MC YC KC NC HB d)) (gI : mg "item_size" = some (.ref fI)) (kI : PySem.W.keepIn K (.ref fI) = true) (bI : Binds K fdI ["item"] []) :
    FnOk P w K mg base CX0 (2 * (d + 1)) f fd ["row"] (spRsz FC MC YC KC NC HB (d + 1)) := by
  have nd := sc_row_size.nd
  refine F.ok (k := 2 * d + 1) sc_row_size (fun vs H Q E h => ?_) (fun cdv A outer s H vs Q E hr h => ?_)
  · obtain ⟨r, ps, rfl, _⟩ := h
    rfl
  · obtain ⟨r, ps, rfl, ⟨xs, hrow, hI, hl⟩, hd, q⟩ := h
    refine ⟨_, PSs.nox (pss_one (ps_ret (pe_callB (cr_sum rfl) (by rfl) N.sum (by decide +kernel) (pa_cons (pe_lc (own := [("item", 1)]) (g := gName 1) (tt := tYes) rfl nd (pi_seq (pv 0)) (blkOk_by (N := ["row", "item"]) (sc := defScope s_row_size) (by decide +kernel)) (fun _ _ _ _ _ => pg_name (i := 1) nd rfl (Or.inl rfl)) (fun _ _ _ _ _ => pts_nil) (fun _ _ _ _ _ => (pe_call GI hr (by rfl) gI kI bI .nil pass0 (pa_cons (pv 1) pa_nil)))) pa_nil)))), ?_⟩
    have lx : (xs.map V.ref).length = ps.length := by rw [List.length_map, hI.length]
    refine ret_go (cb_one ?_)
    refine lc_seqV (K := K) (v := 1) (f := fun j => V.int ((sizI (ps.getD j default) : Nat) : Int)) rfl hrow (by rw [lx]; omega) (fun _ => rfl) (fun j x H' R hj hx sm r => ?_) fun D H' sm nD eD => ?_
    · obtain ⟨i, a, rfl, hi, ei, _, hA⟩ := hI.elt hx
      rw [ei] at r
      have mem := List.mem_of_getElem? hi
      have := depL_le mem
      exact ⟨_, rfl, i, a, rfl, ItmAt.same sm i a hA, by omega, r⟩
    · rw [lx, range_get (fun i => V.int ((sizI i : Nat) : Int))] at eD
      refine ⟨D, (ps.map sizI).map fun n => ((n : Nat) : Int), rfl, SqL.of (by rw [eD, List.map_map, List.map_map]; rfl), ?_⟩
      rw [sumI_nat, sizL_map]
      exact q H' sm
/-- both sizes, at every depth -/
theorem ok_sizes {fR fI : Addr} {fdR fdI : FuncData} (FR : FnP K "row_size" "row_size" s_row_size fR fdR) (FI : FnP K "item_size" "item_size" s_item_size fI fdI) (T : Town K mg C KC NC FC MC YC OC) (N : Nms mg) (gR : mg "row_size" = some (.ref fR)) (kR : PySem.W.keepIn K (.ref fR) = true) (bR : Binds K fdR ["row"] [])
    (gI : mg "item_size" = some (.ref fI)) (kI : PySem.W.keepIn K (.ref fI) = true) (bI : Binds K fdI ["item"] []) : ∀ d, FnOk P w K mg base CX0 (2 * d) fR fdR ["row"] (spRsz FC MC YC KC NC HB d) ∧ FnOk P w K mg base CX0 (2 * d + 1) fI fdI ["item"] (spIsz FC MC YC KC NC HB d)
  | 0 => by
    have R : FnOk P w K mg base CX0 (2 * 0) fR fdR ["row"] (spRsz FC MC YC KC NC HB 0) := ⟨fun vs H Q E h => (by obtain ⟨r, ps, _, _, h, _⟩ := h; omega), fun A outer s H args us vs Q E _ _ _ _ h => (by obtain ⟨r, ps, _, _, h, _⟩ := h; omega)⟩
    exact ⟨R, ok_isz FI T N R gR kR bR⟩
  | d + 1 => by
    obtain ⟨_, I⟩ := ok_sizes FR FI T N gR kR bR gI kI bI d
    have R := ok_rsz FR N I gI kI bI
    exact ⟨R, ok_isz FI T N R gR kR bR⟩
/-! the fields -/
def fdI (p : Str × List RowL) : Itm := .fld p.1 p.2
theorem ItmsAt.app {ps qs : List Itm} {xs ys : List Addr} (h : ItmsAt FC MC YC KC NC HB H ps xs) (h2 : ItmsAt FC MC YC KC NC HB H qs ys) : ItmsAt FC MC YC KC NC HB H (ps ++ qs) (xs ++ ys) := by
  induction ps generalizing xs with
  | nil =>
    rw [show xs = [] from h]
    exact h2
  | cons x r ih =>
    obtain ⟨b, as, e, h1, h3⟩ := h
    subst e
    exact ⟨b, as ++ ys, rfl, h1, ih h3⟩
theorem fdsL_take {ps : List Itm} {j : Nat} {i : Itm} (h : ps[j]? = some i) : fdsL (ps.take (j + 1)) = fdsL (ps.take j) ++ fdsI i := by
  have app : ∀ as bs : List Itm, fdsL (as ++ bs) = fdsL as ++ fdsL bs := by
    intro as bs
    induction as with
    | nil => rfl
    | cons a as ih =>
      show fdsI a ++ fdsL (as ++ bs) = (fdsI a ++ fdsL as) ++ fdsL bs
      rw [ih, List.append_assoc]
  rw [List.take_add_one, h, app]
  show _ = _ ++ fdsI i
  congr 1
  exact List.append_nil _
end
end K14

set_option autoImplicit false
set_option maxErrors 4
namespace K14
open PySem PySem.Spec PyProof.Rows L2 Tl
/-! ### fields_in; joined -/
theorem fdsL_app (as bs : List Itm) : fdsL (as ++ bs) = fdsL as ++ fdsL bs := by
  induction as with
  | nil => rfl
  | cons a as ih =>
    show fdsI a ++ fdsL (as ++ bs) = (fdsI a ++ fdsL as) ++ fdsL bs
    rw [ih, List.append_assoc]
theorem fdsL_upto (ps : List Itm) (j : Nat) : (fdsL (ps.take j)).length ≤ (fdsL ps).length := by
  have e : fdsL ps = fdsL (ps.take j) ++ fdsL (ps.drop j) := by rw [← fdsL_app, List.take_append_drop]
  rw [e, List.length_append]
  omega
theorem fdsL_one {ps : List Itm} {i : Itm} (h : i ∈ ps) : (fdsI i).length ≤ (fdsL ps).length := by
  obtain ⟨u, v, e⟩ := List.append_of_mem h
  rw [e, fdsL_app, List.length_append]
  show _ ≤ _ + (fdsI i ++ fdsL v).length
  rw [List.length_append]
  omega
section
variable {P : Program} {w : World} {K : PySem.W.Frag} {mg : Str → Option Value} {base : Heap} {C KC NC FC MC YC OC : Addr} {HB H : Hp}
def spFin (FC MC YC KC NC : Addr) (HB : Hp) (d : Nat) : Sp := fun vs H Q _ => ∃ (r : Addr) (ps : List Itm) (H0 : Hp), vs = [.ref r] ∧ Same H0 H ∧ RowI FC MC YC KC NC HB H0 r ps ∧ depL ps < d ∧ (fdsL ps).length ≤ 1000 ∧
  ∀ (l : Addr) (ys : List Addr) (H' : Hp), Same H H' → H l = none → H' l = some (.lst (ys.map V.ref)) → ItmsAt FC MC YC KC NC HB H0 ((fdsL ps).map fdI) ys → Q (.ref l) H'
set_option maxHeartbeats 20000000 in
theorem ok_fin {f : Addr} {fd : FuncData} (F : FnP K "fields_in" "fields_in" s_fields_in f fd) (T : Town K mg C KC NC FC MC YC OC) (N : Nms mg) (g : mg "fields_in" = some (.ref f)) (k : PySem.W.keepIn K (.ref f) = true) (b : Binds K fd ["row"] []) :
    ∀ d, FnOk P w K mg base CX0 d f fd ["row"] (spFin FC MC YC KC NC HB d)
  | 0 => ⟨fun vs H Q E h => (by obtain ⟨r, ps, _, _, _, _, h, _⟩ := h; omega), fun A outer s H args us vs Q E _ _ _ _ h => (by obtain ⟨r, ps, _, _, _, _, h, _⟩ := h; omega)⟩
  | d + 1 => by
    have G := ok_fin F T N g k b d
    have nd := sc_fields_in.nd
    refine F.ok sc_fields_in (fun vs H Q E h => ?_) (fun cdv A outer s H vs Q E hr h => ?_)
    · obtain ⟨r, ps, H0, rfl, _⟩ := h
      rfl
    · obtain ⟨r, ps, H0, rfl, s00, ⟨xs, hrow, hI, hl⟩, hd, hz, q⟩ := h
      refine ⟨_, PSs.nox (pss_cons (ps_set (i := 1) nd rfl (.inl rfl) (pe_lst pa_nil)) (pss_cons (ps_for PassesOwn.never rfl (pi_seq (pv 0)) (pg_name (i := 2) nd rfl (.inl rfl))
        (pss_one (ps_if (pt_val (pe_callB call_isi (by rfl) N.isi (by decide +kernel) (pa_cons (pv 2) (pa_cons (pe_glob (v := .ref FC) rfl T.gF rfl) pa_nil)))) (pss_one (ps_expr (pe_bm PySem.F.plainAttrs_list PySem.F.slot_list_append PySem.F.type_list_append mt_append (pv 1) (pa_cons (pv 2) pa_nil))))
          (pss_one (ps_if (pt_val (pe_callB call_isi (by rfl) N.isi (by decide +kernel) (pa_cons (pv 2) (pa_cons (pe_glob (v := .ref YC) rfl T.gY rfl) pa_nil)))) (pss_one (ps_expr (pe_bm PySem.F.plainAttrs_list PySem.F.slot_list_extend PySem.F.type_list_extend mt_extend (pv 1) (pa_cons (pe_call G hr (by rfl) g k b .nil pass0 (pa_cons (pe_fld (pv 2) rfl) pa_nil)) pa_nil)))) pss_nil)))))
        (pss_one (ps_ret (pv 1))))), ?_⟩
      have lx : (xs.map V.ref).length = ps.length := by rw [List.length_map, hI.length]
      refine ⟨Nat.zero_le _, fun L hL => ?_⟩
      have s0 := same_new (o := .lst []) hL
      refine name_go ?_
      dsimp only
      refine seq_go ?_
      refine for_seq (K := K) (H0 := H) rfl (hrow.same s00) (fun j σ H' => ∃ (ys : List Addr) (x2 : Option V), σ = [some (.ref r), some (.ref L), x2] ∧ H' L = some (.lst (ys.map V.ref)) ∧ Same H H' ∧ ItmsAt FC MC YC KC NC HB H0 ((fdsL (ps.take j)).map fdI) ys) ⟨[], none, rfl, upd_same, s0, rfl⟩ ?_ ?_ ?_
      · rintro j σ' H' ⟨_, _, _, _, sm, _⟩
        exact sm
      · rintro j x σ H3 hx ⟨ys, x2, rfl, e4, sm, hF⟩
        obtain ⟨i, a, rfl, hi, _, _, hA⟩ := hI.elt hx
        have mem := List.mem_of_getElem? hi
        have hA3 := ItmAt.same (s00.trans sm) i a hA
        have tk := fdsL_take hi
        refine name_go ?_
        dsimp only
        refine ⟨_, rfl, _, _, _, _, isF i, rfl, .own FC, ItmAt.ty T hA3, T.kF i, isF i, rfl, ?_⟩
        have ly : ys.length ≤ 1000 := by
          have z := hF.length
          rw [List.length_map] at z
          have z2 := fdsL_upto ps j
          omega
        have stay : ∀ {H4 : Hp} {o : HO}, Same H3 H4 → Same H (upd H4 L o) := fun {H4 o} s4 c u z => by
          rw [upd_ne (ne_of_none z hL)]
          exact s4 _ _ (sm _ _ z)
        cases i with
        | fld n rows =>
          refine iteT ?_
          refine ⟨_, rfl, .inl ⟨rfl, _, SqL.of e4⟩, _, rfl, L, _, _, rfl, rfl, e4, small1000 (by rw [List.length_map]; omega), ?_⟩
          refine ⟨ys ++ [a], _, rfl, ?_, stay (Same.refl _), ?_⟩
          · rw [upd_same, List.map_append]
            rfl
          · rw [tk, List.map_append]
            exact hF.snoc hA
        | mrk t =>
          refine iteF ?_
          refine ⟨_, rfl, _, _, _, _, false, rfl, .own YC, ItmAt.ty T hA3, T.no mM mY T.ne.2.2.2.1, false, rfl, iteF ?_⟩
          refine ⟨ys, _, rfl, e4, sm, ?_⟩
          rw [tk]
          exact (congrArg (fun l => ItmsAt FC MC YC KC NC HB H0 (l.map fdI) ys) (List.append_nil _)).mpr hF
        | grp qs =>
          obtain ⟨dx, p, zs, h1, h2, h3, h4⟩ := id hA3
          have dq : 1 + depL qs ≤ depL ps := depL_le mem
          refine iteF ?_
          refine ⟨_, rfl, _, _, _, _, true, rfl, .own YC, ItmAt.ty T hA3, T.own mY, true, rfl, iteT ?_⟩
          refine ⟨_, rfl, .inl ⟨rfl, _, SqL.of e4⟩, _, rfl, a, YC, dx, _, _, rfl, h1, T.clY, T.nY, lk_hit, p, qs, H0, rfl, s00.trans sm, ?_, by omega, ?_, fun l us H4 s4 nl el hF4 => ?_⟩
          · obtain ⟨dx', p', zs', g1, g2, g3, g4⟩ := id hA
            have z := (s00.trans sm) _ _ g1
            rw [h1] at z
            cases z
            exact ⟨zs', .inr g2, g3, g4⟩
          · have z : (fdsL qs).length ≤ (fdsL ps).length := fdsL_one mem
            omega
          · have lu : us.length ≤ 1000 := by
              have z := hF4.length
              rw [List.length_map] at z
              have z2 : (fdsL qs).length ≤ (fdsL ps).length := fdsL_one mem
              omega
            refine ⟨L, l, _, _, rfl, rfl, s4 _ _ e4, el, line_small (by rw [List.length_map, List.length_map]; omega), ?_⟩
            refine ⟨ys ++ us, _, rfl, ?_, stay s4, ?_⟩
            · rw [upd_same, List.map_append]
            · rw [tk, List.map_append]
              exact hF.app hF4
      · rintro σ H3 ⟨ys, x2, rfl, e4, sm, hF⟩
        rw [lx, List.take_of_length_le (Nat.le_refl _)] at hF
        exact ⟨_, rfl, q L ys H3 sm hL e4 hF⟩
end
end K14

set_option autoImplicit false
set_option maxErrors 4
namespace K14
open PySem PySem.Spec PyProof.Rows L2 Tl
/-! ### joined -/
theorem at_last {α : Type} (l : List α) (v : α) : atI (l ++ [v]) (-1) = some v := by
  unfold atI ixN
  rw [if_neg (by decide), if_pos (by rw [List.length_append, List.length_singleton]; omega)]
  show (l ++ [v])[((-1 : Int) + (((l ++ [v]).length : Nat) : Int)).toNat]? = some v
  rw [List.length_append, List.length_singleton, show ((-1 : Int) + ((l.length + 1 : Nat) : Int)).toNat = l.length by omega]
  simp
theorem ix_last (n : Nat) : ixN (n + 1) (-1) = some n := by
  unfold ixN
  rw [if_neg (by decide), if_pos (by omega)]
  congr 1
  omega
theorem set_last {α : Type} (l : List α) (v u : α) : (l ++ [v]).set l.length u = l ++ [u] := by simp
theorem addJ_mm (l : List Itm) (a b : Str) : addJ (l ++ [.mrk a]) (.mrk b) = l ++ [.mrk (a ++ b)] := by
  unfold addJ
  rw [List.getLast?_append]
  simp
theorem addJ_nil (i : Itm) : addJ [] i = [i] := by
  cases i <;> rfl
theorem addJ_noM (l : List Itm) (i : Itm) (h : isM i = false) : addJ l i = l ++ [i] := by
  cases i with
  | mrk t => cases h
  | fld n r =>
    unfold addJ
    split
    · rename_i h1 h2
      cases h2
    · rfl
  | grp ps =>
    unfold addJ
    split
    · rename_i h1 h2
      cases h2
    · rfl
theorem addJ_lastN (l : List Itm) (x i : Itm) (h : isM x = false) : addJ (l ++ [x]) i = (l ++ [x]) ++ [i] := by
  unfold addJ
  split
  · rename_i o y a b h1
    rw [List.getLast?_append] at h1
    have e : x = .mrk a := by simpa using h1
    rw [e] at h
    cases h
  · rfl
theorem addJ_siz (l : List Itm) (i : Itm) : sizL (addJ l i) = sizL l + sizI i := by
  have app : ∀ as bs : List Itm, sizL (as ++ bs) = sizL as + sizL bs := by
    intro as bs
    induction as with
    | nil => exact (Nat.zero_add _).symm
    | cons a as ih =>
      show sizI a + sizL (as ++ bs) = (sizI a + sizL as) + sizL bs
      rw [ih, Nat.add_assoc]
  rcases List.eq_nil_or_concat l with rfl | ⟨m, x, rfl⟩
  · rw [addJ_nil]
    show sizI i + 0 = 0 + sizI i
    omega
  · rw [List.concat_eq_append]
    cases x with
    | mrk a =>
      cases i with
      | mrk b =>
        rw [addJ_mm, app, app]
        show sizL m + ((a.cps ++ b.cps).size + 0) = sizL m + (a.cps.size + 0) + b.cps.size
        rw [Array.size_append]
        omega
      | fld n r =>
        rw [addJ_noM _ _ rfl, app]
        show _ + (sizI _ + 0) = _
        rfl
      | grp ps =>
        rw [addJ_noM _ _ rfl, app]
        show _ + (sizI _ + 0) = _
        rfl
    | fld n r =>
      rw [addJ_lastN _ _ _ rfl, app]
      show _ + (sizI _ + 0) = _
      rfl
    | grp ps =>
      rw [addJ_lastN _ _ _ rfl, app]
      show _ + (sizI _ + 0) = _
      rfl
theorem addJ_len (l : List Itm) (i : Itm) : (addJ l i).length ≤ l.length + 1 := by
  unfold addJ
  split
  · rw [List.length_append, List.length_dropLast, List.length_singleton]
    omega
  · rw [List.length_append, List.length_singleton]
    omega
theorem joinJ_take {ps : List Itm} {j : Nat} {i : Itm} (h : ps[j]? = some i) : joinJ (ps.take (j + 1)) = addJ (joinJ (ps.take j)) i := by
  unfold joinJ
  rw [List.take_add_one, h, List.foldl_append]
  rfl
theorem joinJ_siz (ps : List Itm) (j : Nat) : sizL (joinJ (ps.take j)) ≤ sizL ps ∧ (joinJ (ps.take j)).length ≤ ps.length := by
  have app : ∀ (as : List Itm) (acc : List Itm), sizL (as.foldl addJ acc) = sizL acc + sizL as ∧ (as.foldl addJ acc).length ≤ acc.length + as.length := by
    intro as
    induction as with
    | nil => exact fun acc => ⟨rfl, Nat.le_refl _⟩
    | cons a as ih =>
      intro acc
      obtain ⟨h1, h2⟩ := ih (addJ acc a)
      have h3 := addJ_len acc a
      refine ⟨?_, ?_⟩
      · show sizL (as.foldl addJ (addJ acc a)) = sizL acc + (sizI a + sizL as)
        rw [h1, addJ_siz]
        omega
      · show (as.foldl addJ (addJ acc a)).length ≤ acc.length + (as.length + 1)
        omega
  have le : sizL (ps.take j) ≤ sizL ps := by
    have : ∀ (as : List Itm) (j : Nat), sizL (as.take j) ≤ sizL as := by
      intro as
      induction as with
      | nil => intro j; cases j <;> exact Nat.le_refl _
      | cons a as ih =>
        intro j
        cases j with
        | zero => exact Nat.zero_le _
        | succ j => exact Nat.add_le_add_left (ih j) _
    exact this ps j
  obtain ⟨h1, h2⟩ := app (ps.take j) []
  unfold joinJ
  refine ⟨?_, ?_⟩
  · rw [h1]
    show 0 + _ ≤ _
    omega
  · rw [List.length_take] at h2
    have : ([] : List Itm).length = 0 := rfl
    omega
section
variable {P : Program} {w : World} {K : PySem.W.Frag} {mg : Str → Option Value} {base : Heap} {C KC NC FC MC YC OC : Addr} {HB H : Hp}
/-- how Mark(..) is made -/
def CanMark (P : Program) (w : World) (K : PySem.W.Frag) (mg : Str → Option Value) (base : Heap) (MC : Addr) : Prop := ∃ f fd, Mk K MC f ∧ mg "Mark" = some (.ref MC) ∧ Binds K fd ["self", "text"] [] ∧ FnOk P w K mg base CX0 2 f fd ["self", "text"] (spMinit MC)
def spJoined (FC MC YC KC NC : Addr) (HB : Hp) : Sp := fun vs H Q _ => ∃ (r : Addr) (ps : List Itm), vs = [.ref r] ∧ RowI FC MC YC KC NC HB H r ps ∧ sizL ps ≤ 200 ∧
  ∀ (t : Addr) (xs : List Addr) (H' : Hp), Same H H' → H t = none → H' t = some (.tup (xs.map V.ref)) → ItmsAt FC MC YC KC NC HB H' (joinJ ps) xs → Q (.ref t) H'
/-- an item that stood before, or a mark that was made -/
def MadeAt (FC MC YC KC NC : Addr) (HB H H' : Hp) (i : Itm) (b : Addr) : Prop := ItmAt FC MC YC KC NC HB H i b ∨ ∃ t dx, i = .mrk t ∧ H' b = some (.ins MC dx [("text", .str t)]) ∧ MarkOk t
theorem MadeAt.stay {H1 H2 : Hp} {i : Itm} {b : Addr} (h : MadeAt FC MC YC KC NC HB H H1 i b) (s : ∀ a C dx fs, H1 a = some (.ins C dx fs) → H2 a = some (.ins C dx fs)) : MadeAt FC MC YC KC NC HB H H2 i b := by
  rcases h with h | ⟨t, dx, e, h, ok⟩
  · exact .inl h
  · exact .inr ⟨t, dx, e, s _ _ _ _ h, ok⟩
/-- what has been made so far -/
structure MadeL (FC MC YC KC NC : Addr) (HB H H' : Hp) (ms : List Itm) (ys : List Addr) : Prop where
  len : ys.length = ms.length
  each : ∀ (n : Nat) (i : Itm) (b : Addr), ms[n]? = some i → ys[n]? = some b → MadeAt FC MC YC KC NC HB H H' i b
theorem MadeL.stay {H1 H2 : Hp} {ms : List Itm} {ys : List Addr} (h : MadeL FC MC YC KC NC HB H H1 ms ys) (s : ∀ a C dx fs, H1 a = some (.ins C dx fs) → H2 a = some (.ins C dx fs)) : MadeL FC MC YC KC NC HB H H2 ms ys :=
  ⟨h.len, fun n i b h1 h2 => (h.each n i b h1 h2).stay s⟩
theorem MadeL.snoc {H1 : Hp} {ms : List Itm} {ys : List Addr} {i : Itm} {b : Addr} (h : MadeL FC MC YC KC NC HB H H1 ms ys) (hi : MadeAt FC MC YC KC NC HB H H1 i b) : MadeL FC MC YC KC NC HB H H1 (ms ++ [i]) (ys ++ [b]) := by
  refine ⟨by rw [List.length_append, List.length_append, h.len]; rfl, fun n i2 b2 h1 h2 => ?_⟩
  by_cases hn : n < ms.length
  · rw [List.getElem?_append_left hn] at h1
    rw [List.getElem?_append_left (by rw [h.len]; exact hn)] at h2
    exact h.each n i2 b2 h1 h2
  · have hn2 : n = ms.length := by
      obtain ⟨z, _⟩ := List.getElem?_eq_some_iff.mp h1
      rw [List.length_append, List.length_singleton] at z
      omega
    subst hn2
    rw [List.getElem?_append_right (Nat.le_refl _), Nat.sub_self] at h1
    rw [← h.len, List.getElem?_append_right (Nat.le_refl _), Nat.sub_self] at h2
    cases h1
    cases h2
    exact hi
theorem MadeL.init {H1 : Hp} {ms : List Itm} {ys : List Addr} {i : Itm} {b : Addr} (h : MadeL FC MC YC KC NC HB H H1 (ms ++ [i]) (ys ++ [b])) : MadeL FC MC YC KC NC HB H H1 ms ys ∧ MadeAt FC MC YC KC NC HB H H1 i b := by
  have l := h.len
  rw [List.length_append, List.length_append, List.length_singleton, List.length_singleton] at l
  have l2 : ys.length = ms.length := by omega
  refine ⟨⟨l2, fun n i2 b2 h1 h2 => ?_⟩, h.each ms.length i b (by simp) (by rw [← l2]; simp)⟩
  obtain ⟨z, _⟩ := List.getElem?_eq_some_iff.mp h1
  exact h.each n i2 b2 (by rw [List.getElem?_append_left z]; exact h1) (by rw [List.getElem?_append_left (by omega)]; exact h2)
theorem sizI_le {ps : List Itm} {i : Itm} (h : i ∈ ps) : sizI i ≤ sizL ps := by
  induction ps with
  | nil => cases h
  | cons x r ih =>
    rcases List.mem_cons.mp h with rfl | h
    · exact Nat.le_add_right _ _
    · exact Nat.le_trans (ih h) (Nat.le_add_left _ _)
set_option maxHeartbeats 20000000 in
theorem ok_joined {f : Addr} {fd : FuncData} (F : FnP K "joined" "joined" s_joined f fd) (T : Town K mg C KC NC FC MC YC OC) (N : Nms mg) (M : CanMark P w K mg base MC) : FnOk P w K mg base CX0 4 f fd ["row"] (spJoined FC MC YC KC NC HB) := by
  obtain ⟨fM, fdM, MM, gM, bM, GM⟩ := M
  have nd := sc_joined.nd
  refine F.ok sc_joined (fun vs H Q E h => ?_) (fun cdv A outer s H vs Q E hr h => ?_)
  · obtain ⟨r, ps, rfl, _⟩ := h
    rfl
  · obtain ⟨r, ps, rfl, ⟨xs, hrow, hI, hl⟩, hz, q⟩ := h
    refine ⟨_, PSs.nox (pss_cons (ps_set (i := 1) nd rfl (.inl rfl) (pe_lst pa_nil)) (pss_cons (ps_for PassesOwn.never rfl (pi_seq (pv 0)) (pg_name (i := 2) nd rfl (.inl rfl))
      (pss_one (ps_if (PW.pt (pw_and (pt_val (pe_callB call_isi (by rfl) N.isi (by decide +kernel) (pa_cons (pv 2) (pa_cons (pe_glob (v := .ref MC) rfl T.gM rfl) pa_nil)))) (pw_and (pt_cmpR op_gt (pe_callB call_len_seq (by rfl) N.len PySem.boot_len (pa_cons (pv 1) pa_nil)) pe_int (nomark _)) (pw_and1 (pt_val (pe_callB call_isi (by rfl) N.isi (by decide +kernel) (pa_cons (pe_ix (r := rIxL K) ix_list (pv 1) (pe_un un_neg pe_int) (fun _ _ => rfl)) (pa_cons (pe_glob (v := .ref MC) rfl T.gM rfl) pa_nil))))))))
        (pss_one (ps_asg (pe_make MM GM hr (by rfl) T.gM bM .nil pass0 (pa_cons (pe_op op_add_str (pe_fld (pe_ix (r := rIxL K) ix_list (pv 1) (pe_un un_neg pe_int) (fun _ _ => rfl)) rfl) (pe_fld (pv 2) rfl)) pa_nil)) (pg_sub (pv 1) (pe_un un_neg pe_int) set_list)))
        (pss_one (ps_expr (pe_bm PySem.F.plainAttrs_list PySem.F.slot_list_append PySem.F.type_list_append mt_append (pv 1) (pa_cons (pv 2) pa_nil)))))))
      (pss_one (ps_ret (pe_callTy call_tuple_of (by rfl) N.tuple (by decide +kernel) (pa_cons (pv 1) pa_nil)))))), ?_⟩
    have lx : (xs.map V.ref).length = ps.length := by rw [List.length_map, hI.length]
    refine ⟨Nat.zero_le _, fun L hL => ?_⟩
    have s0 := same_new (o := .lst []) hL
    refine name_go ?_
    dsimp only
    refine seq_go ?_
    refine for_seq (K := K) (H0 := H) rfl hrow (fun j σ H' => ∃ (ys : List Addr) (x2 : Option V), σ = [some (.ref r), some (.ref L), x2] ∧ H' L = some (.lst (ys.map V.ref)) ∧ Same H H' ∧ MadeL FC MC YC KC NC HB H H' (joinJ (ps.take j)) ys) ⟨[], none, rfl, upd_same, s0, rfl, fun n i b h => by simp [joinJ] at h⟩ ?_ ?_ ?_
    · rintro j σ' H' ⟨_, _, _, _, sm, _⟩
      exact sm
    · rintro j x σ H3 hx ⟨ys, x2, rfl, e4, sm, hF⟩
      obtain ⟨i, a, rfl, hi, _, _, hA⟩ := hI.elt hx
      have mem := List.mem_of_getElem? hi
      have hA3 := ItmAt.same sm i a hA
      have tk := joinJ_take hi
      obtain ⟨z1, z2⟩ := joinJ_siz ps j
      have ly : ys.length ≤ 1000 := by
        have z := hF.len
        omega
      generalize hms : joinJ (ps.take j) = ms at hF z1 z2 tk
      have stay : ∀ {u : HO}, Same H (upd H3 L u) := fun {u} c o z => by
        rw [upd_ne (ne_of_none z hL)]
        exact sm _ _ z
      have ins3 : ∀ {xs : List V} {u : HO} {H4 : Hp}, H4 L = some (.lst xs) → ∀ a C dx fs, H4 a = some (.ins C dx fs) → upd H4 L u a = some (.ins C dx fs) := fun {xs u H4} e a C dx fs z => by
        rw [upd_ne (fun y => by rw [y, e] at z; cases z)]
        exact z
      have app : addJ ms i = ms ++ [i] → ∃ (ys' : List Addr) (x2' : Option V), [some (V.ref r), some (.ref L), some (.ref a)] = [some (V.ref r), some (.ref L), x2'] ∧ upd H3 L (.lst (ys.map V.ref ++ [.ref a])) L = some (.lst (ys'.map V.ref)) ∧ Same H (upd H3 L (.lst (ys.map V.ref ++ [.ref a]))) ∧ MadeL FC MC YC KC NC HB H (upd H3 L (.lst (ys.map V.ref ++ [.ref a]))) (joinJ (ps.take (j + 1))) ys' := fun e => by
        refine ⟨ys ++ [a], _, rfl, by rw [upd_same, List.map_append]; rfl, stay, ?_⟩
        rw [tk, e]
        exact (hF.stay (ins3 e4)).snoc (.inl hA)
      refine name_go ?_
      dsimp only
      refine ⟨_, rfl, _, _, _, _, isM i, rfl, .own MC, ItmAt.ty T hA3, T.kM i, isM i, rfl, ?_⟩
      cases i with
      | fld n rows =>
        refine iteF ?_
        exact ⟨_, rfl, .inl ⟨rfl, _, SqL.of e4⟩, _, rfl, L, _, _, rfl, rfl, e4, small1000 (by rw [List.length_map]; omega), app (addJ_noM _ _ rfl)⟩
      | grp qs =>
        refine iteF ?_
        exact ⟨_, rfl, .inl ⟨rfl, _, SqL.of e4⟩, _, rfl, L, _, _, rfl, rfl, e4, small1000 (by rw [List.length_map]; omega), app (addJ_noM _ _ rfl)⟩
      | mrk b =>
        refine iteT ?_
        refine ⟨_, rfl, L, _, rfl, .inl (SqL.of e4), _, _, rfl, rfl, _, rfl, ?_⟩
        rcases List.eq_nil_or_concat ms with rfl | ⟨m0, x0, rfl⟩
        · have y0 : ys = [] := List.eq_nil_of_length_eq_zero hF.len
          subst y0
          refine (if_neg (by decide)).mpr ?_
          exact ⟨_, rfl, .inl ⟨rfl, _, SqL.of e4⟩, _, rfl, L, _, _, rfl, rfl, e4, small1000 (by rw [List.length_map]; omega), app (addJ_nil _)⟩
        rw [List.concat_eq_append] at hF z1 z2 tk app
        obtain ⟨y0, b0, rfl⟩ : ∃ y0 b0, ys = y0 ++ [b0] := by
          rcases List.eq_nil_or_concat ys with rfl | ⟨y0, b0, rfl⟩
          · have z := hF.len
            simp at z
          · exact ⟨y0, b0, List.concat_eq_append⟩
        obtain ⟨hF0, hL0⟩ := hF.init
        have e5 : H3 L = some (.lst (y0.map V.ref ++ [.ref b0])) := by rw [e4, List.map_append]; rfl
        have lp : (0 : Int) < ((((y0 ++ [b0]).map V.ref).length : Nat) : Int) := by
          rw [List.length_map, List.length_append, List.length_singleton]
          omega
        have ty0 : TyX K H3 (.ref b0) (.ref (clsI FC MC YC x0)) := by
          rcases hL0 with h | ⟨u, dx, rfl, h, ok⟩
          · exact ItmAt.ty T (ItmAt.same sm _ _ h)
          · exact (T.fam.sees MC mM).ty T.clM h
        refine (if_pos (decide_eq_true lp)).mpr ?_
        refine ⟨_, rfl, _, rfl, L, _, -1, _, rfl, rfl, SqL.of e5, at_last _ _, _, _, _, _, isM x0, rfl, .own MC, ty0, T.kM x0, _, rfl, ?_⟩
        cases x0 with
        | fld n rows =>
          refine iteF ?_
          exact ⟨_, rfl, .inl ⟨rfl, _, SqL.of e4⟩, _, rfl, L, _, _, rfl, rfl, e4, small1000 (by rw [List.length_map]; omega), app (addJ_lastN _ _ _ rfl)⟩
        | grp qs =>
          refine iteF ?_
          exact ⟨_, rfl, .inl ⟨rfl, _, SqL.of e4⟩, _, rfl, L, _, _, rfl, rfl, e4, small1000 (by rw [List.length_map]; omega), app (addJ_lastN _ _ _ rfl)⟩
        | mrk a0 =>
          refine iteT (asg_go ?_)
          obtain ⟨dx0, h0, ok0⟩ : ∃ dx, H3 b0 = some (.ins MC dx [("text", .str a0)]) ∧ MarkOk a0 := by
            rcases hL0 with ⟨dx, h, ok⟩ | ⟨u, dx, e, h, ok⟩
            · exact ⟨dx, sm _ _ h, ok⟩
            · cases e
              exact ⟨dx, h, ok⟩
          obtain ⟨dx1, h1, ok1⟩ := id hA3
          rw [addJ_mm] at tk
          have okN : MarkOk (a0 ++ b) := by
            obtain ⟨z, _⟩ := joinJ_siz ps (j + 1)
            rw [tk] at z
            have z3 : sizI (.mrk (a0 ++ b)) ≤ _ := sizI_le (ps := m0 ++ [.mrk (a0 ++ b)]) (List.mem_append_right _ (List.mem_singleton.mpr rfl))
            have z4 : sizI (.mrk (a0 ++ b)) = a0.cps.size + b.cps.size := Array.size_append
            have z5 : (a0 ++ b).cps.size = a0.cps.size + b.cps.size := Array.size_append
            have := ok0.lo
            refine ⟨by omega, by omega, fun c hc => ?_⟩
            have hc : c ∈ a0.cps.toList ++ b.cps.toList := by
              have e : (a0 ++ b).cps.toList = a0.cps.toList ++ b.cps.toList := Array.toList_append
              rw [← e]
              exact hc
            rcases List.mem_append.mp hc with hc | hc
            · exact ok0.al c hc
            · exact ok1.al c hc
          refine ⟨_, rfl, _, rfl, L, _, -1, _, rfl, rfl, SqL.of e5, at_last _ _, b0, MC, dx0, _, _, rfl, h0, T.clM, T.nM, lk_hit, _, rfl, a, MC, dx1, _, _, rfl, h1, T.clM, T.nM, lk_hit, a0, b, rfl, rfl, ?_, fun nb dn hnb hdn ne => ?_⟩
          · have := ok0.hi
            have := ok1.hi
            exact line_small (by show a0.cps.size + b.cps.size ≤ 16777216; omega)
          refine ⟨nb, dn, a0 ++ b, rfl, upd_same, okN, fun H5 but e6 => ⟨rfl, ?_⟩⟩
          have keep : ∀ {c : Addr} {o : HO}, H3 c = some o → H5 c = some o := fun {c o} z => by
            have n1 : c ≠ nb := ne_of_none z hnb
            refine but c o ?_ n1
            rw [upd_ne n1, upd_ne (ne_of_none z hdn)]
            exact z
          have nL : L ≠ nb := ne_of_none e4 hnb
          refine ⟨_, rfl, _, rfl, L, _, -1, y0.length, rfl, rfl, keep e5, ?_, ?_⟩
          · rw [List.length_append, List.length_singleton, List.length_map]
            exact ix_last _
          · have es : (y0.map V.ref ++ [V.ref b0]).set y0.length (.ref nb) = (y0 ++ [nb]).map V.ref := by
              have l0 : (y0.map V.ref).length = y0.length := List.length_map _
              rw [← l0, set_last, List.map_append]
              rfl
            rw [es]
            refine ⟨y0 ++ [nb], _, rfl, upd_same, fun c o z => ?_, ?_⟩
            · rw [upd_ne (ne_of_none z hL)]
              exact keep (sm _ _ z)
            · rw [tk]
              refine (hF0.stay fun c C dx fs z => ?_).snoc (.inr ⟨_, dn, rfl, ?_, okN⟩)
              · rw [upd_ne (fun y => by rw [y, e4] at z; cases z)]
                exact keep z
              · rw [upd_ne (Ne.symm nL)]
                exact e6
    · rintro σ H3 ⟨ys, x2, rfl, e4, sm, hF⟩
      rw [lx, List.take_of_length_le (Nat.le_refl _)] at hF
      refine ⟨_, rfl, L, _, rfl, .inl ⟨SqL.of e4, fun t ht => ?_⟩⟩
      have s5 := same_new (o := .tup (ys.map V.ref)) ht
      refine q t ys _ (sm.trans s5) (sm.free ht) upd_same (itms_of hF.len fun n i b h1 h2 => ?_)
      rcases hF.each n i b h1 h2 with h | ⟨u, dx, rfl, h, ok⟩
      · exact ItmAt.same (sm.trans s5) i b h
      · exact ⟨dx, s5 _ _ h, ok⟩
end
end K14

set_option autoImplicit false
set_option maxErrors 4
namespace K14
open PySem PySem.Spec PyProof.Rows L2 Tl
/-! ### Maybe(parts); rows of lines -/
section
variable {P : Program} {w : World} {K : PySem.W.Frag} {mg : Str → Option Value} {base : Heap} {C KC NC FC MC YC OC : Addr} {HB H : Hp}
/-- a list of items -/
def LstI (FC MC YC KC NC : Addr) (HB H : Hp) (a : Addr) (ps : List Itm) : Prop := ∃ xs : List Addr, H a = some (.lst (xs.map V.ref)) ∧ ItmsAt FC MC YC KC NC HB H ps xs ∧ ps.length ≤ 1000
theorem LstI.row {a : Addr} {ps : List Itm} (h : LstI FC MC YC KC NC HB H a ps) : RowI FC MC YC KC NC HB H a ps := by
  obtain ⟨xs, h1, h2, h3⟩ := h
  exact ⟨xs, .inl h1, h2, h3⟩
theorem LstI.same {H' : Hp} {a : Addr} {ps : List Itm} (h : LstI FC MC YC KC NC HB H a ps) (s : Same H H') : LstI FC MC YC KC NC HB H' a ps := by
  obtain ⟨xs, h1, h2, h3⟩ := h
  exact ⟨xs, s _ _ h1, ItmsAt.same s _ _ h2, h3⟩
def spYinit (FC MC YC KC NC : Addr) (HB : Hp) : Sp := fun vs H Q _ => ∃ (p dx r : Addr) (ps : List Itm), vs = [.ref p, .ref r] ∧ H p = some (.ins YC dx []) ∧ LstI FC MC YC KC NC HB H r ps ∧ ps ≠ [] ∧ ownF ps = true ∧ depL ps ≤ 2 ∧ sizL ps ≤ 200 ∧
  ∀ H' : Hp, But p H H' → ItmAt FC MC YC KC NC HB H' (.grp (joinJ ps)) p → Q .non H'
/-- a new instance without fields is no item: it may be changed -/
theorem kind_put {p dx A : Addr} {u : HO} {k : Addr} {rows : List RowL} (hp : H p = some (.ins A dx [])) (h : KindN KC NC HB H k rows) : KindN KC NC HB (upd H p u) k rows := by
  have st : ∀ b o, H b = some o → (∀ A dx, o ≠ .ins A dx []) → upd H p u b = some o := fun b o e n => by
    rw [upd_ne (fun y => by rw [y, hp] at e; exact n A dx (Option.some.inj e).symm)]
    exact e
  obtain ⟨dk, t, n, rs, h1, h2, h3, h4, dn, c, f, d, hn, n1, n2, n3, n4⟩ := h
  refine ⟨dk, t, n, rs, st _ _ h1 (fun _ _ z => by injection z with z1 z2 z3; cases z3), st _ _ h2 (fun _ _ z => by cases z), h3, h4.tups (fun b xs e => st _ _ e fun _ _ z => by cases z), dn, c, f, d, hn, st _ _ n1 (fun _ _ z => by injection z with z1 z2 z3; cases z3), st _ _ n2 (fun _ _ z => by cases z), st _ _ n3 (fun _ _ z => by cases z), st _ _ n4 (fun _ _ z => by cases z)⟩
mutual
theorem ItmAt.put {p dx A : Addr} {u : HO} (hp : H p = some (.ins A dx [])) : ∀ (i : Itm) (a : Addr), ItmAt FC MC YC KC NC HB H i a → ItmAt FC MC YC KC NC HB (upd H p u) i a
  | .fld n rows, a, h => by
    obtain ⟨dx, k, h1, h2, h3⟩ := h
    exact ⟨dx, k, by rw [upd_ne (fun y => by rw [y, hp] at h1; injection h1 with z; injection z with z1 z2 z3; cases z3)]; exact h1, kind_put hp h2, h3⟩
  | .mrk t, a, h => by
    obtain ⟨dx, h1, h2⟩ := h
    exact ⟨dx, by rw [upd_ne (fun y => by rw [y, hp] at h1; injection h1 with z; injection z with z1 z2 z3; cases z3)]; exact h1, h2⟩
  | .grp ps, a, h => by
    obtain ⟨dx, q, xs, h1, h2, h3, h4⟩ := h
    exact ⟨dx, q, xs, by rw [upd_ne (fun y => by rw [y, hp] at h1; injection h1 with z; injection z with z1 z2 z3; cases z3)]; exact h1, by rw [upd_ne (fun y => by rw [y, hp] at h2; cases h2)]; exact h2, ItmsAt.put hp ps xs h3, h4⟩
theorem ItmsAt.put {p dx A : Addr} {u : HO} (hp : H p = some (.ins A dx [])) : ∀ (ps : List Itm) (xs : List Addr), ItmsAt FC MC YC KC NC HB H ps xs → ItmsAt FC MC YC KC NC HB (upd H p u) ps xs
  | [], xs, h => h
  | i :: r, xs, h => by
    obtain ⟨a, as, e, h1, h2⟩ := h
    exact ⟨a, as, e, ItmAt.put hp i a h1, ItmsAt.put hp r as h2⟩
end
set_option maxHeartbeats 20000000 in
theorem ok_y_init {f : Addr} {fd : FuncData} (F : FnP K "__init__" "Maybe.__init__" s_Maybe_init_ f fd) (T : Town K mg C KC NC FC MC YC OC) (N : Nms mg) (C_is_row : Can P w K mg base CX0 "is_row" ["thing"] 1 (spRowL K)) (C_is_item : Can P w K mg base CX0 "is_item" ["thing"] 1 (spItem FC MC YC KC NC HB)) (C_has_own_field : Can P w K mg base CX0 "has_own_field" ["row"] 1 (spHasOwn FC MC YC KC NC HB))
    (C_depth_around : Can P w K mg base CX0 "depth_around" ["parts"] 3 (spDepth FC MC YC KC NC HB 3)) (C_row_size : Can P w K mg base CX0 "row_size" ["row"] 6 (spRsz FC MC YC KC NC HB 3)) (C_joined : Can P w K mg base CX0 "joined" ["row"] 4 (spJoined FC MC YC KC NC HB)) : FnOk P w K mg base CX0 7 f fd ["self", "parts"] (spYinit FC MC YC KC NC HB) := by
  obtain ⟨f_is_row, fd_is_row, G_is_row, g_is_row, k_is_row, b_is_row⟩ := C_is_row
  obtain ⟨f_is_item, fd_is_item, G_is_item, g_is_item, k_is_item, b_is_item⟩ := C_is_item
  obtain ⟨f_has_own_field, fd_has_own_field, G_has_own_field, g_has_own_field, k_has_own_field, b_has_own_field⟩ := C_has_own_field
  obtain ⟨f_depth_around, fd_depth_around, G_depth_around, g_depth_around, k_depth_around, b_depth_around⟩ := C_depth_around
  obtain ⟨f_row_size, fd_row_size, G_row_size, g_row_size, k_row_size, b_row_size⟩ := C_row_size
  obtain ⟨f_joined, fd_joined, G_joined, g_joined, k_joined, b_joined⟩ := C_joined
  obtain ⟨tD, gD⟩ := T.deep
  obtain ⟨tS, gS⟩ := T.size
  have nd := sc_Maybe_init_.nd
  refine F.ok sc_Maybe_init_ (fun vs H Q E h => ?_) (fun cdv A outer s H vs Q E hr h => ?_)
  · obtain ⟨p, dx, r, ps, rfl, _⟩ := h
    rfl
  · obtain ⟨p, dx, r, ps, rfl, hp, ⟨xs, hrow, hI, hl⟩, ne, own, deep, siz, q⟩ := h
    refine ⟨_, PSs.nox (pss_cons (ps_if (PW.pt (pw_or (pt_not (pt_val (pe_call G_is_row (hr.mono (by decide)) (by rfl) g_is_row k_is_row b_is_row .nil pass0 (pa_cons (pv 1) pa_nil)))) (pw_or1 (pt_cmpR op_eq (pe_callB call_len_seq (by rfl) N.len PySem.boot_len (pa_cons (pv 1) pa_nil)) pe_int (nomark _))))) pss_never pss_nil)
      (pss_cons (ps_for PassesOwn.never rfl (pi_enum (by rfl) N.enumerate (pa_cons (pv 1) pa_nil)) (pg_tup rfl (pgs_cons (pg_name (i := 2) nd rfl (.inl rfl) (.inr rfl)) (pgs_cons (pg_name (i := 3) nd rfl (.inl rfl) (.inr rfl)) pgs_nil)))
        (pss_one (ps_if (pt_not (pt_val (pe_call G_is_item (hr.mono (by decide)) (by rfl) g_is_item k_is_item b_is_item .nil pass0 (pa_cons (pv 3) pa_nil)))) pss_never pss_nil)))
      (pss_cons (ps_if (PW.pt (pw_or (pt_not (pt_val (pe_call G_has_own_field (hr.mono (by decide)) (by rfl) g_has_own_field k_has_own_field b_has_own_field .nil pass0 (pa_cons (pv 1) pa_nil)))) (pw_or (pt_cmpR op_gt (pe_call G_depth_around (hr.mono (by decide)) (by rfl) g_depth_around k_depth_around b_depth_around .nil pass0 (pa_cons (pv 1) pa_nil)) (pe_glob (v := .int 3) (by rfl) gD ⟨_, rfl⟩) (nomark _)) (pw_or1 (pt_cmpR op_gt (pe_call G_row_size hr (by rfl) g_row_size k_row_size b_row_size .nil pass0 (pa_cons (pv 1) pa_nil)) (pe_glob (v := .int 200) (by rfl) gS ⟨_, rfl⟩) (nomark _)))))) pss_never pss_nil)
      (pss_one (ps_fld (pv 0) (pe_call G_joined (hr.mono (by decide)) (by rfl) g_joined k_joined b_joined .nil pass0 (pa_cons (pv 1) pa_nil)) rfl))))), ?_⟩
    have lx : (xs.map V.ref).length = ps.length := by rw [List.length_map, hI.length]
    have l1 : 1 ≤ ps.length := List.length_pos_iff.mpr ne
    have rowAt : ∀ {H1 : Hp}, Same H H1 → RowI FC MC YC KC NC HB H1 r ps := fun {H1} s => ⟨xs, .inl (s _ _ hrow), ItmsAt.same s _ _ hI, hl⟩
    refine ⟨_, rfl, r, _, rfl, .inl hrow, fun H1 s1 => ⟨_, rfl, iteF ?_⟩⟩
    refine ⟨_, rfl, r, _, rfl, .inl (SqL.of (s1 _ _ hrow)), rfl, _, rfl, ?_⟩
    refine (if_neg (fun z => by have z := V.int.inj (of_decide_eq_true z); omega)).mpr ?_
    refine ⟨_, rfl, r, _, rfl, SqL.of (s1 _ _ hrow), ?_⟩
    refine for_it (n := (xs.map V.ref).length) (walk_enum (K := K) (xs := xs.map V.ref)) (fun i σ H' => ∃ x2 x3 : Option V, σ = [some (.ref p), some (.ref r), x2, x3] ∧ Same H H') ⟨none, none, rfl, s1⟩ (fun i σ H' _ h => by
      obtain ⟨_, _, _, sm⟩ := h
      exact SqL.of (K := K) (sm _ _ hrow)) ?_ ?_
    · rintro i x σ H2 H3 hi ⟨x2, x3, rfl, sm⟩ ⟨T3, y, z, rfl, hT, rfl, hy, hz⟩
      obtain ⟨it, a, rfl, _, _, _, hA⟩ := hI.elt hz
      have sT := same_new (o := .tup [y, .ref a]) hT
      have s2 := sm.trans sT
      refine ⟨T3, _, rfl, SqT.of upd_same, rfl, _, _, rfl, _, _, rfl, rfl, ?_⟩
      refine ⟨_, rfl, it, a, rfl, ItmAt.same s2 _ _ hA, fun H4 s4 => ⟨_, rfl, iteF ?_⟩⟩
      exact ⟨_, _, rfl, s2.trans s4⟩
    · rintro σ H2 ⟨x2, x3, rfl, sm⟩
      refine ⟨_, rfl, r, ps, rfl, rowAt sm, fun H3 s3 => ⟨_, rfl, ?_⟩⟩
      rw [own]
      refine iteF ?_
      refine ⟨_, rfl, r, ps, rfl, rowAt (sm.trans s3), by omega, fun H4 s4 => ⟨_, _, rfl, rfl, _, rfl, ?_⟩⟩
      refine (if_neg (fun z => by have z := of_decide_eq_true z; omega)).mpr ?_
      have s34 := (sm.trans s3).trans s4
      refine ⟨_, rfl, r, ps, rfl, rowAt s34, by omega, fun H5 s5 => ⟨_, _, rfl, rfl, _, rfl, ?_⟩⟩
      refine (if_neg (fun z => by have z := of_decide_eq_true z; omega)).mpr ?_
      have s5' := s34.trans s5
      refine ⟨_, rfl, r, ps, rfl, rowAt s5', siz, fun t ys H6 s6 nt ht hJ => ?_⟩
      have s6' := s5'.trans s6
      have hp6 := s6' _ _ hp
      refine ⟨_, rfl, p, YC, dx, _, rfl, hp6, T.clY, T.nY, (by show 0 < 1000; decide), ?_⟩
      refine q _ (fun x o e nx => ?_) ⟨dx, t, ys, upd_same, ?_, ItmsAt.put hp6 _ _ hJ, ?_⟩
      · rw [upd_ne nx]
        exact s6' _ _ e
      · rw [upd_ne (fun y => by rw [y, hp6] at ht; cases ht)]
        exact ht
      · have z := (joinJ_siz ps ps.length).2
        rw [List.take_of_length_le (Nat.le_refl _)] at z
        omega
end
end K14

set_option autoImplicit false
set_option maxErrors 4
/-! for i, x in enumerate(t), t a tuple. -/
namespace PySem
theorem meets_enumerate_newT {v : Value} {o : Obj} {H : Heap → Prop} (B : Begins v o H) :
    Meets (Builtin.«enumerate.__new__» ⟨[.type "enumerate", v], []⟩) (fun _ R s => H s.heap ∧
      R (.ok (.ret (.ref (s.heap.push o).objs.size))) { s with heap := (s.heap.push o).push { cls := .type "enumerate", data := .fields #[.none, .bool false, .ref s.heap.objs.size, rawInt 0, .none, .none] } }) :=
  .of_wp fun prog w A R s h => by
    obtain ⟨hp, g, d, tk, os⟩ := s; obtain ⟨h1, h⟩ := h
    have hsub := sub_enumerate
    have q1 : ∀ {A' : Around} {E : Value → Shared → Prop} {Q : Value → Shared → Prop}, Q (.ref hp.objs.size) ⟨hp.push o, g, d, tk, os⟩ → wpAny (model prog w) A' (pyIter v) Q E ⟨hp, g, d, tk, os⟩ :=
      fun q => B.iter prog w _ _ ⟨hp, g, d, tk, os⟩ _ h1 q
    wp_walk using q1
    refine wpAny_stack_any fun st => wpAny_pure ?_
    split
    · rename_i c _ _ _ _ _
      cases (c == Value.type "enumerate")
      · wp_walk using q1
        exact ⟨_, rfl, h⟩
      · wp_walk using q1
        exact ⟨_, rfl, h⟩
    · wp_walk using q1
      exact ⟨_, rfl, h⟩
theorem enum_tuple {prog : Program} {w : World} {A : Around} {E : Value → Shared → Prop} {s : Shared} {v : Value} {o : Obj} {H : Heap → Prop} {Q : Value → Shared → Prop} (B : Begins v o H) (h1 : H s.heap)
    (h : ∀ h', IsEnum h' (s.heap.objs.size + 1) s.heap.objs.size 0 .none → h'.get? s.heap.objs.size = some o → h'.objs.size = s.heap.objs.size + 2 →
      (∀ b o, s.heap.get? b = some o → h'.get? b = some o) → Q (.ref (s.heap.objs.size + 1)) { s with heap := h' }) :
    wpAny (model prog w) A (call (.type "enumerate") [v]) Q E s := by
  refine callType_new F.called_enumerate (by decide) (F.typeCall_enumerate_1 _) (F.newCall_enumerate_1 _) (fun obj => F.args_object_init_2 obj _) F.entry_enumerate_new
    (meets_enumerate_newT B) ⟨h1, ?_⟩
  have hz : (s.heap.push o).objs.size = s.heap.objs.size + 1 := Heap.size_push ..
  show _ ∧ _
  rw [hz]
  have he : IsEnum ((s.heap.push o).push { cls := .type "enumerate", data := .fields #[.none, .bool false, .ref s.heap.objs.size, rawInt 0, .none, .none] }) (s.heap.objs.size + 1) s.heap.objs.size 0 .none := by
    have := Heap.get?_push_size (s.heap.push o) (o := { cls := .type "enumerate", data := .fields #[.none, .bool false, .ref s.heap.objs.size, rawInt 0, .none, .none] }) rfl
    rw [hz] at this; exact this
  refine ⟨⟨_, he, rfl⟩, h _ he (Heap.get?_push_of_some _ (Heap.get?_push_size _ B.free)) (by rw [Heap.size_push, hz]) fun b o x => Heap.get?_push_of_some _ (Heap.get?_push_of_some _ x)⟩
end PySem
namespace Tl
open PySem PySem.Spec PyProof.Rows L2
/-- the tuple at a, each item in a new pair -/
def IteT (K : PySem.W.Frag) (a : Addr) : It :=
  ⟨fun i H => ∃ (xs : List V) (x : V), SqT K H a xs ∧ xs[i]? = some x, fun i H v H' => ∃ T x, v = .ref T ∧ H T = none ∧ H' = upd H T (.tup [.int (i : Nat), x]) ∧ ∀ xs, SqT K H a xs → xs[i]? = some x, fun i H => ∃ xs : List V, SqT K H a xs ∧ xs.length ≤ i⟩
theorem turn_enumT {P : Program} {w : World} {K : PySem.W.Frag} {elts : List Expr} {kk : Nat} {tpos : Pos} (a e it : Addr) :
    Turn P w K (.Tuple elts kk tpos) (IteT K a) [e, it] e (fun i h => (∃ old, IsEnum h e it ((i : Nat) : Int) old) ∧ h.IsTupleIter it a i ∧ e ≠ it ∧ a ≠ it ∧ e ≠ a) where
  mem := by simp
  obj := fun i h st b hb => by
    obtain ⟨⟨old, he⟩, ⟨o, ho, hc, hd⟩, _⟩ := st
    have e' : b = e ∨ b = it := by simpa using hb
    rcases e' with z | z
    · rw [z]; exact ⟨_, he, fun v q => nomatch q⟩
    · rw [z]; exact ⟨o, ho, fun v q => by rw [hd] at q; cases q⟩
  keep := fun i h h' st k => let ⟨⟨old, he⟩, hi, hne⟩ := st; ⟨⟨old, k e (by simp) _ he⟩, hi.at fun o q => k it (by simp) o q, hne⟩
  item := by
    intro X hP hw hK hc i pins s σ H E I hf st hg
    subst hP hw hK
    obtain ⟨⟨old, he⟩, hit, hne, hai, hea⟩ := st
    obtain ⟨xs, x, hq, hx⟩ := hg
    obtain ⟨its, rv, p, hz⟩ := I.tuple hq
    obtain ⟨u, hu, ru⟩ := rv.get hx
    have hel : e < s.heap.objs.size := Heap.lt_size he
    have hil : it < s.heap.objs.size := by obtain ⟨_, q, _⟩ := hit; exact Heap.lt_size q
    have hlt : i < its.toArray.size := by
      have := (List.getElem?_eq_some_iff.mp hu).1
      simpa using this
    have pT : s.heap.IsTuple a its.toArray := p
    refine wpAny_pyNext_enum_itemD (Draws.tuple (A := X.A.in1) (show X.A.in1.handled = none from I.ok.hd hc) it a hai its.toArray) he ⟨hit, pT⟩ hlt hne (by simp only [List.mem_cons, List.not_mem_nil, or_false, not_or]; exact ⟨hne, hea⟩) fun u' h' tk hP' ho hst' hT hsz hk => ?_
    have eu : u' = u := by
      have : its[i]? = some u' := by simpa using hP'
      rw [hu] at this
      exact (Option.some.inj this).symm
    subst eu
    refine ⟨_, rfl, wpAny_letOwnedTupleGo_enum (s := { s with heap := h', toks := tk + 1 }) ho fun h'' he' sb => ?_⟩
    have hT2 : h''.get? s.heap.objs.size = some { cls := .type "tuple", data := .seq #[.int i tk, u'] } := (sb.2 _ (Nat.ne_of_gt hel)).trans hT
    have new : ObjOk X.prog X.w (upd H s.heap.objs.size (.tup [.int (i : Nat), x])) h'' s.heap.objs.size (.tup [.int (i : Nat), x]) :=
      ⟨by show 2 ≤ sizeLine; decide, [.int i tk, u'], .cons ⟨_, rfl⟩ (.cons ru .nil), ⟨_, hT2, rfl, _, rfl⟩⟩
    have I1 : Inv X pins σ (upd H s.heap.objs.size (.tup [.int (i : Nat), x])) { s with heap := h'', toks := tk + 1 } :=
      I.turnedNew (ch := [e, it]) (fun b ob hb q => (sb.2 b (fun z => hb (by simp [z]))).trans (hk b ob (fun z => hb (by simp [z])) (fun z => hb (by simp [z])) q)) hf (Nat.le_refl _) new
    refine ⟨.ref s.heap.objs.size, _, I1, rfl, ⟨_, x, rfl, I.hok.fresh (Nat.le_refl _), rfl, fun ys hy => ?_⟩, ⟨⟨u', ?_⟩, hst'.1.at fun o q => (sb.2 it (Ne.symm hne)).trans q, hne, hai, hea⟩, fun b hb => ?_⟩
    · have e3 : ys = xs := I.tuple_inj hy hq
      rw [e3]
      exact hx
    · have e1 : ((i + 1 : Nat) : Int) = (i : Int) + 1 := by omega
      rw [e1]; exact he'
    · have hb' : b < s.heap.objs.size := by
        have e' : b = e ∨ b = it := by simpa using hb
        rcases e' with z | z
        · rw [z]; exact hel
        · rw [z]; exact hil
      rw [upd_ne (Nat.ne_of_lt hb')]
      exact (hf b hb).1
  done := by
    intro X hP hw hK hc i pins s σ H E I hf st hg
    subst hP hw hK
    obtain ⟨⟨old, he⟩, hit, hne, hai, hea⟩ := st
    obtain ⟨xs, hq, hx⟩ := hg
    obtain ⟨its, rv, p, hz⟩ := I.tuple hq
    obtain ⟨f0, f1, f2, f3, f4, f5⟩ := hf it (by simp)
    have hl := rv.length
    have pT : s.heap.IsTuple a its.toArray := p
    have hT : s.TypeIs (.ref e) "enumerate" := ⟨_, he, rfl⟩
    unfold pyNext
    refine wpAny_bind (wpAny_attempt (wpAny_callSpecial?_slot (name := Str.ofString "__next__") hT F.slot_enumerate_next
      (wpAny_call_entry F.slot_enumerate_next hT F.entry_enumerate_next ?_ (F.args_enumerate_next_1 _))))
    show wpAny _ _ (field (.ref e) 2 >>= _) _ _ _
    refine wpAny_bind (wpAny_field he rfl (x := .ref it) rfl ?_)
    refine wpAny_bind (wpAny_nextOf_tuple_end (I.ok.hd hc) hit pT (by simp; omega) fun h' x he' hx' => ?_)
    obtain ⟨o, ho, hcc⟩ := hx'
    refine wpAny_bind (wpAny_isInstance (T := "StopIteration") (b := true) ⟨o, ho, hcc⟩ isSubtype_stop ?_)
    exact wpAny_pure ⟨rfl, I.turned (t' := s.toks) (fun b o hb q => he' b o hb q) f0 f1 f3 f4 f5⟩
  self := fun A i s Q E st h => let ⟨⟨_, he⟩, _⟩ := st; wpAny_pyIter_enum he h
def iEnumT (K : PySem.W.Frag) (ta : TA) : TI := fun σ H R => ta σ H fun vs H1 => ∃ a xs, vs = [.ref a] ∧ SqT K H1 a xs ∧ R (IteT K a) H1
theorem pi_enumT {X : Cx} {e : Expr} {ta : TA} {p pos tpos : Pos} {elts : List Expr} {kk : Nat} (hg : Gl X "enumerate") (hm : X.mg "enumerate" = none) (ha : PA X [e] ta) (hs : starEach [e] X.env = [(false, eval e X.env)] := by rfl) :
    PI X (.Tuple elts kk tpos) (.Call (.Name "enumerate" p) [e] [] pos) (iEnumT X.K ta) := by
  refine ⟨fun pins s σ H R I h => ?_⟩
  refine Call_ (ld_blt I hg hm boot_enumerate (PyProof.Rows.callWith_type1 (thn (ha.run pos pins s σ H _ I h) fun us s1 ⟨vs, H1, I1, r1, q1⟩ => ?_) hs rfl))
  obtain ⟨a, xs, ex, hq, q⟩ := q1
  subst ex
  cases r1 with
  | cons r rr =>
    cases rr
    cases r
    obtain ⟨its, rv, p', hz⟩ := I1.tuple hq
    have pT : s1.heap.IsTuple a its.toArray := p'
    have hal : a < s1.heap.objs.size := by obtain ⟨_, g, _⟩ := pT; exact Heap.lt_size g
    refine enum_tuple (begins_tuple a its.toArray) pT fun h' he hit hsz hk => wpAny_pyIter_enum he ?_
    have I2 : Inv X pins σ H1 { s1 with heap := h' } := I1.kept (t' := s1.toks) hk
    refine ⟨s1.heap.objs.size + 1, [s1.heap.objs.size + 1, s1.heap.objs.size], _, _, H1, rfl, I2, turn_enumT a (s1.heap.objs.size + 1) s1.heap.objs.size, ⟨⟨.none, he⟩, ⟨_, hit, rfl, rfl⟩, Nat.succ_ne_self _, Nat.ne_of_lt hal, Ne.symm (Nat.ne_of_lt (Nat.lt_succ_of_lt hal))⟩, fun b hb => ?_, q⟩
    have e' : b = s1.heap.objs.size + 1 ∨ b = s1.heap.objs.size := by simpa using hb
    have hle : s1.heap.objs.size ≤ b := by
      rcases e' with z | z
      · rw [z]; exact Nat.le_add_right _ _
      · rw [z]; exact Nat.le_refl _
    exact I1.fpOk hle (I1.hok.fresh hle)
theorem walk_enumT {K : PySem.W.Frag} {a : Addr} {xs : List V} : Walk (IteT K a) xs.length (fun H => SqT K H a xs) (YPair (fun i => some (V.int (i : Nat))) fun i => xs[i]?) where
  goes := fun i H hi q => ⟨xs, xs[i], q, List.getElem?_eq_getElem hi⟩
  stops := fun H q => ⟨xs, q, Nat.le_refl _⟩
  yields := fun i H x H' hi q y => by
    obtain ⟨T, z, e1, e2, e3, e4⟩ := y
    exact ⟨T, .int (i : Nat), z, e1, e2, e3, rfl, e4 xs q⟩
end Tl

set_option autoImplicit false
set_option maxErrors 4
/-! enumerate(x), x a list or a tuple held in a name -/
namespace Tl
open PySem PySem.Spec PyProof.Rows L2
def iEnumV (K : PySem.W.Frag) (i : Nat) : TI := fun σ H R => ∃ a xs, σ[i]? = some (some (.ref a)) ∧ ((SqL K H a xs ∧ R (Ite K a) H) ∨ (SqT K H a xs ∧ R (IteT K a) H))
theorem pi_enumV {X : Cx} {x : Str} {p p2 pos tpos : Pos} {elts : List Expr} {kk i : Nat} (hg : Gl X "enumerate") (hm : X.mg "enumerate" = none) (hv : PE X (.Name x p2) (tVar i)) (hs : starEach [.Name x p2] X.env = [(false, eval (.Name x p2) X.env)] := by rfl) :
    PI X (.Tuple elts kk tpos) (.Call (.Name "enumerate" p) [.Name x p2] [] pos) (iEnumV X.K i) := by
  refine ⟨fun pins s σ H R I h => ?_⟩
  obtain ⟨a, xs, e, ⟨hq, h⟩ | ⟨hq, h⟩⟩ := h
  · exact (pi_enum hg hm (pa_cons hv pa_nil) hs).run pins s σ H R I ⟨_, e, a, xs, rfl, hq, h⟩
  · exact (pi_enumT hg hm (pa_cons hv pa_nil) hs).run pins s σ H R I ⟨_, e, a, xs, rfl, hq, h⟩
section
variable {K : PySem.W.Frag} {a : Addr} {xs : List V} {i : Nat} {g : TG} {σ : L2.St} {H : Hp}
theorem for_enum {tb : TS} {D : Ends} {H0 : Hp} (hv : σ[i]? = some (some (.ref a))) (hr : RowV H0 a xs) (Pv : Nat → L2.St → Hp → Prop) (h0 : Pv 0 σ H) (hl : ∀ j σ' H', Pv j σ' H' → Same H0 H')
    (hs : ∀ j z σ' H' T, xs[j]? = some z → Pv j σ' H' → H' T = none → g (.ref T) σ' (upd H' T (.tup [.int (j : Nat), z])) fun σ2 H2 => tb { D with nx := Pv (j + 1), ct := Pv (j + 1), bk := D.nx } σ2 H2) (hd : ∀ σ' H', Pv xs.length σ' H' → D.nx σ' H') : tFor (iEnumV K i) g tb D σ H := by
  rcases hr with h | h
  · refine ⟨a, xs, hv, .inl ⟨SqL.of (hl _ _ _ h0 _ _ h), for_it (n := xs.length) (walk_enum (K := K) (xs := xs)) Pv h0 (fun j σ' H' _ p => SqL.of (hl j σ' H' p _ _ h)) (fun j x σ' H' H2 hj p y => ?_) hd⟩⟩
    obtain ⟨T, y, z, rfl, hT, rfl, hy, hz⟩ := y
    cases hy
    exact hs j z σ' H' T hz p hT
  · refine ⟨a, xs, hv, .inr ⟨SqT.of (hl _ _ _ h0 _ _ h), for_it (n := xs.length) (walk_enumT (K := K) (xs := xs)) Pv h0 (fun j σ' H' _ p => SqT.of (hl j σ' H' p _ _ h)) (fun j x σ' H' H2 hj p y => ?_) hd⟩⟩
    obtain ⟨T, y, z, rfl, hT, rfl, hy, hz⟩ := y
    cases hy
    exact hs j z σ' H' T hz p hT
end
end Tl

set_option autoImplicit false
set_option maxErrors 4
namespace K14
open PySem PySem.Spec PyProof.Rows L2 Tl
/-! ### lines: what they are asked -/
theorem range_getL {α : Type} (h : List Itm → α) (ps : List (List Itm)) : (List.range ps.length).map (fun j => h (ps.getD j [])) = ps.map h := by
  refine List.ext_getElem (by simp) fun j h1 h2 => ?_
  rw [List.length_map, List.length_range] at h1
  rw [List.getElem_map, List.getElem_range, List.getElem_map, List.getD_eq_getElem?_getD, List.getElem?_eq_getElem h1]
  rfl
def seenV (ns : List Str) : List (Key × V) := ns.map fun n => (Sum.inr n, V.bl true)
theorem seen_no {ns : List Str} {n : Str} (h : ¬ n ∈ ns) : valV (seenV ns) (Sum.inr n) = none ∧ putK (seenV ns) (Sum.inr n) (.bl true) = seenV (ns ++ [n]) := by
  have no : ∀ kv ∈ seenV ns, ¬ kv.1 = Sum.inr n := fun kv hk e => by
    obtain ⟨m, hm, rfl⟩ := List.mem_map.mp hk
    have e : (Sum.inr m : Key) = Sum.inr n := e
    exact h (Sum.inr.inj e ▸ hm)
  constructor
  · unfold valV
    rw [List.find?_eq_none.mpr fun kv hk => by simpa using no kv hk]
    rfl
  · unfold putK
    rw [if_neg (by
      rw [List.any_eq_true]
      rintro ⟨kv, hk, e⟩
      exact no kv hk (of_decide_eq_true e))]
    unfold seenV
    rw [List.map_append]
    rfl
section
variable {P : Program} {w : World} {K : PySem.W.Frag} {mg : Str → Option Value} {base : Heap} {C KC NC FC MC YC OC : Addr} {HB H : Hp}
/-- a list or a tuple of rows of items -/
def LinI (FC MC YC KC NC : Addr) (HB H : Hp) (R : Addr) (ls : List (List Itm)) : Prop := ∃ rs : List Addr, RowV H R (rs.map V.ref) ∧ rs.length = ls.length ∧ ∀ (j : Nat) (r : Addr) (ps : List Itm), rs[j]? = some r → ls[j]? = some ps → RowI FC MC YC KC NC HB H r ps
theorem LinI.same {H' : Hp} {R : Addr} {ls : List (List Itm)} (h : LinI FC MC YC KC NC HB H R ls) (s : Same H H') : LinI FC MC YC KC NC HB H' R ls := by
  obtain ⟨rs, h1, h2, h3⟩ := h
  exact ⟨rs, h1.same s, h2, fun j r ps a b => (h3 j r ps a b).same s⟩
theorem lin_elt {rs : List Addr} {ls : List (List Itm)} (l : rs.length = ls.length) (h : ∀ (j : Nat) (r : Addr) (ps : List Itm), rs[j]? = some r → ls[j]? = some ps → RowI FC MC YC KC NC HB H r ps) {j : Nat} {x : V} (hx : (rs.map V.ref)[j]? = some x) : ∃ r ps, x = .ref r ∧ ls[j]? = some ps ∧ ls.getD j [] = ps ∧ RowI FC MC YC KC NC HB H r ps := by
  rw [List.getElem?_map] at hx
  cases ha : rs[j]? with
  | none =>
    rw [ha] at hx
    cases hx
  | some a =>
    rw [ha] at hx
    cases hx
    obtain ⟨hj, _⟩ := List.getElem?_eq_some_iff.mp ha
    rw [l] at hj
    have hi : ls[j]? = some ls[j] := List.getElem?_eq_getElem hj
    exact ⟨a, ls[j], rfl, hi, by rw [List.getD_eq_getElem?_getD, hi]; rfl, h j a _ ha hi⟩
def spIir (FC MC YC KC NC : Addr) (HB : Hp) : Sp := fun vs H Q _ => ∃ (r : Addr) (ps : List Itm), vs = [.ref r] ∧ RowI FC MC YC KC NC HB H r ps ∧ ps ≠ [] ∧ Gives H Q (.bl true)
set_option maxHeartbeats 20000000 in
theorem ok_iir {f : Addr} {fd : FuncData} (F : FnP K "is_item_row" "is_item_row" s_is_item_row f fd) (N : Nms mg) (C_is_row : Can P w K mg base CX0 "is_row" ["thing"] 1 (spRowL K)) (C_is_item : Can P w K mg base CX0 "is_item" ["thing"] 1 (spItem FC MC YC KC NC HB)) : FnOk P w K mg base CX0 2 f fd ["thing"] (spIir FC MC YC KC NC HB) := by
  obtain ⟨f_is_row, fd_is_row, G_is_row, g_is_row, k_is_row, b_is_row⟩ := C_is_row
  obtain ⟨f_is_item, fd_is_item, G_is_item, g_is_item, k_is_item, b_is_item⟩ := C_is_item
  have nd := sc_is_item_row.nd
  refine F.ok sc_is_item_row (fun vs H Q E h => ?_) (fun cdv A outer s H vs Q E hr h => ?_)
  · obtain ⟨r, ps, rfl, _⟩ := h
    rfl
  · obtain ⟨r, ps, rfl, ⟨xs, hrow, hI, hl⟩, ne, q⟩ := h
    refine ⟨_, PSs.nox (pss_one (ps_ret (pe_and (pe_call G_is_row hr (by rfl) g_is_row k_is_row b_is_row .nil pass0 (pa_cons (pv 0) pa_nil)) (pe_and (pe_cmpR op_gt (pe_callB call_len_seq (by rfl) N.len PySem.boot_len (pa_cons (pv 0) pa_nil)) pe_int (nomark _)) (pe_one (pe_callB (cr_all rfl) (by rfl) N.all (by decide +kernel) (pa_cons (pe_lc (own := [("item", 1)]) (g := gName 1) (tt := tYes) rfl nd (pi_seq (pv 0)) (blkOk_by (N := ["thing", "item"]) (sc := defScope s_is_item_row) (by decide +kernel)) (fun _ _ _ _ _ => pg_name (i := 1) nd rfl (Or.inl rfl)) (fun _ _ _ _ _ => pts_nil) (fun _ _ _ _ _ => (pe_call G_is_item hr (by rfl) g_is_item k_is_item b_is_item .nil pass0 (pa_cons (pv 1) pa_nil)))) pa_nil))))))), ?_⟩
    have lx : (xs.map V.ref).length = ps.length := by rw [List.length_map, hI.length]
    have l1 : 1 ≤ ps.length := List.length_pos_iff.mpr ne
    refine ⟨_, rfl, r, _, rfl, hrow, fun H1 s1 => ⟨true, rfl, iteT ?_⟩⟩
    refine ⟨_, rfl, r, _, rfl, (hrow.same s1).elim (fun z => .inl (SqL.of z)) (fun z => .inr (SqT.of z)), _, _, rfl, rfl, true, congrArg V.bl (decide_eq_true (show (0 : Int) < _ by rw [lx]; omega)), iteT ?_⟩
    refine cb_one ?_
    refine lc_seqV (K := K) (v := 1) (f := fun j => V.bl true) rfl (hrow.same s1) (by rw [lx]; omega) (fun _ => rfl) (fun j x H' R hj hx sm r => ?_) fun D H' sm nD eD => ?_
    · obtain ⟨i, a, rfl, _, _, _, hA⟩ := hI.elt hx
      exact ⟨_, rfl, i, a, rfl, ItmAt.same (s1.trans sm) _ _ hA, r⟩
    · refine ⟨D, (List.range (xs.map V.ref).length).map fun _ => true, rfl, SqL.of (by rw [eD, List.map_map]; rfl), ?_⟩
      have e : (((List.range (xs.map V.ref).length).map fun _ => true).all id) = true := List.all_eq_true.mpr fun x hx => by
        obtain ⟨_, _, rfl⟩ := List.mem_map.mp hx
        rfl
      rw [e]
      exact q H' (s1.trans sm)
def spLsz (FC MC YC KC NC : Addr) (HB : Hp) : Sp := fun vs H Q _ => ∃ (R : Addr) (ls : List (List Itm)), vs = [.ref R] ∧ LinI FC MC YC KC NC HB H R ls ∧ ls.length ≤ 1000 ∧ (∀ ps ∈ ls, depL ps < 4) ∧ Gives H Q (.int ((ls.length : Int) - 1 + (((ls.map sizL).sum : Nat) : Int)))
set_option maxHeartbeats 20000000 in
theorem ok_lsz {f : Addr} {fd : FuncData} (F : FnP K "lines_size" "lines_size" s_lines_size f fd) (N : Nms mg) (C_row_size : Can P w K mg base CX0 "row_size" ["row"] 8 (spRsz FC MC YC KC NC HB 4)) : FnOk P w K mg base CX0 9 f fd ["lines"] (spLsz FC MC YC KC NC HB) := by
  obtain ⟨f_row_size, fd_row_size, G_row_size, g_row_size, k_row_size, b_row_size⟩ := C_row_size
  have nd := sc_lines_size.nd
  refine F.ok sc_lines_size (fun vs H Q E h => ?_) (fun cdv A outer s H vs Q E hr h => ?_)
  · obtain ⟨R, ls, rfl, _⟩ := h
    rfl
  · obtain ⟨R, ls, rfl, ⟨rs, hrow, lrs, hI⟩, hl, hd, q⟩ := h
    refine ⟨_, PSs.nox (pss_one (ps_ret (pe_op op_add (pe_op op_sub (pe_callB call_len_seq (by rfl) N.len PySem.boot_len (pa_cons (pv 0) pa_nil)) pe_int) (pe_callB (cr_sum rfl) (by rfl) N.sum (by decide +kernel) (pa_cons (pe_lc (own := [("line", 1)]) (g := gName 1) (tt := tYes) rfl nd (pi_seq (pv 0)) (blkOk_by (N := ["lines", "line"]) (sc := defScope s_lines_size) (by decide +kernel)) (fun _ _ _ _ _ => pg_name (i := 1) nd rfl (Or.inl rfl)) (fun _ _ _ _ _ => pts_nil) (fun _ _ _ _ _ => (pe_call G_row_size hr (by rfl) g_row_size k_row_size b_row_size .nil pass0 (pa_cons (pv 1) pa_nil)))) pa_nil))))), ?_⟩
    have lx : (rs.map V.ref).length = ls.length := by rw [List.length_map, lrs]
    refine ⟨_, rfl, R, _, rfl, hrow.elim (fun z => .inl (SqL.of z)) (fun z => .inr (SqT.of z)), _, _, rfl, rfl, ?_⟩
    refine cb_one ?_
    refine lc_seqV (K := K) (v := 1) (f := fun j => V.int ((sizL (ls.getD j []) : Nat) : Int)) rfl hrow (by rw [lx]; omega) (fun _ => rfl) (fun j x H' R hj hx sm r => ?_) fun D H' sm nD eD => ?_
    · obtain ⟨ra, ps, rfl, hi, ei, hA⟩ := lin_elt lrs hI hx
      rw [ei] at r
      exact ⟨_, rfl, ra, ps, rfl, hA.same sm, hd _ (List.mem_of_getElem? hi), r⟩
    · rw [lx, range_getL (fun ps => V.int ((sizL ps : Nat) : Int))] at eD
      refine ⟨D, (ls.map sizL).map fun n => ((n : Nat) : Int), rfl, SqL.of (by rw [eD, List.map_map, List.map_map]; rfl), _, _, rfl, rfl, ?_⟩
      show Q (V.int ((((rs.map V.ref).length : Nat) : Int) - 1 + ((ls.map sizL).map fun n => ((n : Nat) : Int)).sum)) H'
      rw [lx, sumI_nat]
      exact q H' sm
end
end K14

set_option autoImplicit false
set_option maxErrors 4
namespace K14
open PySem PySem.Spec PyProof.Rows L2 Tl
/-! ### check_lines -/
def nmsP (ps : List Itm) : List Str := (fdsL ps).map (·.1)
def nmsL (ls : List (List Itm)) : List Str := ls.flatMap nmsP
/-- lines of which a form is made -/
structure LinesOk (ls : List (List Itm)) : Prop where
  lo : 1 ≤ ls.length
  hi : ls.length ≤ 10
  ne : ∀ ps ∈ ls, ps ≠ []
  deep : ∀ ps ∈ ls, depL ps < 4
  nd : (nmsL ls).Nodup
  few : (nmsL ls).length ≤ 12
  siz : ls.length - 1 + (ls.map sizL).sum ≤ 200
theorem nmsL_take {ls : List (List Itm)} {j : Nat} {ps : List Itm} (h : ls[j]? = some ps) : nmsL (ls.take (j + 1)) = nmsL (ls.take j) ++ nmsP ps := by
  unfold nmsL
  rw [List.take_add_one, h, List.flatMap_append]
  show _ ++ [ps].flatMap nmsP = _
  rw [List.flatMap_cons, List.flatMap_nil, List.append_nil]
theorem nmsL_split {ls : List (List Itm)} {j : Nat} {ps : List Itm} (h : ls[j]? = some ps) : ∃ r, nmsL ls = (nmsL (ls.take j) ++ nmsP ps) ++ r := by
  refine ⟨nmsL (ls.drop (j + 1)), ?_⟩
  rw [← nmsL_take h]
  unfold nmsL
  rw [← List.flatMap_append, List.take_append_drop]
section
variable {P : Program} {w : World} {K : PySem.W.Frag} {mg : Str → Option Value} {base : Heap} {C KC NC FC MC YC OC : Addr} {HB H : Hp}
def spCheck (FC MC YC KC NC : Addr) (HB : Hp) : Sp := fun vs H Q _ => ∃ (R : Addr) (ls : List (List Itm)), vs = [.ref R] ∧ LinI FC MC YC KC NC HB H R ls ∧ LinesOk ls ∧ Gives H Q .non
set_option maxHeartbeats 20000000 in
theorem ok_check {f : Addr} {fd : FuncData} (F : FnP K "check_lines" "check_lines" s_check_lines f fd) (T : Town K mg C KC NC FC MC YC OC) (N : Nms mg) (C_is_row : Can P w K mg base CX0 "is_row" ["thing"] 1 (spRowL K)) (C_is_item_row : Can P w K mg base CX0 "is_item_row" ["thing"] 2 (spIir FC MC YC KC NC HB)) (C_fields_in : Can P w K mg base CX0 "fields_in" ["row"] 4 (spFin FC MC YC KC NC HB 4)) (C_lines_size : Can P w K mg base CX0 "lines_size" ["lines"] 9 (spLsz FC MC YC KC NC HB)) : FnOk P w K mg base CX0 10 f fd ["lines"] (spCheck FC MC YC KC NC HB) := by
  obtain ⟨f_is_row, fd_is_row, G_is_row, g_is_row, k_is_row, b_is_row⟩ := C_is_row
  obtain ⟨f_is_item_row, fd_is_item_row, G_is_item_row, g_is_item_row, k_is_item_row, b_is_item_row⟩ := C_is_item_row
  obtain ⟨f_fields_in, fd_fields_in, G_fields_in, g_fields_in, k_fields_in, b_fields_in⟩ := C_fields_in
  obtain ⟨f_lines_size, fd_lines_size, G_lines_size, g_lines_size, k_lines_size, b_lines_size⟩ := C_lines_size
  obtain ⟨tL, gL⟩ := T.lines
  obtain ⟨tF, gF⟩ := T.fields
  obtain ⟨tS, gS⟩ := T.size
  have nd := sc_check_lines.nd
  refine F.ok sc_check_lines (fun vs H Q E h => ?_) (fun cdv A outer s H vs Q E hr h => ?_)
  · obtain ⟨R, ls, rfl, _⟩ := h
    rfl
  · obtain ⟨R, ls, rfl, hLin, ok, q⟩ := h
    obtain ⟨rs, hrow, lrs, hI⟩ := id hLin
    have hu : (A.deeper (envOfC "check_lines" (defScope s_check_lines) s.heap.objs.size f cdv)).units + 1 < cLine := by have := hr.un; omega
    refine ⟨_, PSs.nox (pss_cons (ps_if (PW.pt (pw_or (pt_not (pt_val (pe_call G_is_row (hr.mono (by decide)) (by rfl) g_is_row k_is_row b_is_row .nil pass0 (pa_cons (pv 0) pa_nil)))) (pw_or1 (pt_not (pt_chain op_le op_le pe_int (pe_callB call_len_seq (by rfl) N.len PySem.boot_len (pa_cons (pv 0) pa_nil)) (pe_glob (v := .int 10) (by rfl) gL ⟨_, rfl⟩)))))) pss_never pss_nil)
      (pss_cons (ps_set (i := 1) nd rfl (.inl rfl) pe_dnewK)
      (pss_cons (ps_for PassesOwn.never rfl (pi_enumV (by rfl) N.enumerate (pv 0)) (pg_tup rfl (pgs_cons (pg_name (i := 2) nd rfl (.inl rfl) (.inr rfl)) (pgs_cons (pg_name (i := 3) nd rfl (.inl rfl) (.inr rfl)) pgs_nil)))
        (pss_cons (ps_if (pt_not (pt_val (pe_call G_is_item_row (hr.mono (by decide)) (by rfl) g_is_item_row k_is_item_row b_is_item_row .nil pass0 (pa_cons (pv 3) pa_nil)))) pss_never pss_nil)
        (pss_one (ps_for PassesOwn.never rfl (pi_list (pe_call G_fields_in (hr.mono (by decide)) (by rfl) g_fields_in k_fields_in b_fields_in .nil pass0 (pa_cons (pv 3) pa_nil))) (pg_name (i := 4) nd rfl (.inl rfl))
          (pss_cons (ps_if (pt_cmp (pc_din hu (pe_fld (pv 4) rfl) (pv 1))) pss_never pss_nil)
          (pss_one (ps_dput hu (pv 1) (pe_fld (pv 4) rfl) pe_bl rfl)))))))
      (pss_one (ps_if (PW.pt (pw_or (pt_cmpR op_gt (pe_callB call_lenD (by rfl) N.len PySem.boot_len (pa_cons (pv 1) pa_nil)) (pe_glob (v := .int 12) (by rfl) gF ⟨_, rfl⟩) (nomark _)) (pw_or1 (pt_cmpR op_gt (pe_call G_lines_size hr (by rfl) g_lines_size k_lines_size b_lines_size .nil pass0 (pa_cons (pv 0) pa_nil)) (pe_glob (v := .int 200) (by rfl) gS ⟨_, rfl⟩) (nomark _))))) pss_never pss_nil))))), ?_⟩
    have lx : (rs.map V.ref).length = ls.length := by rw [List.length_map, lrs]
    have olo := ok.lo
    have ohi := ok.hi
    refine ⟨_, rfl, R, _, rfl, hrow, fun H1 s1 => ⟨_, rfl, iteF ?_⟩⟩
    refine ⟨_, rfl, R, _, rfl, (hrow.same s1).elim (fun z => .inl (SqL.of z)) (fun z => .inr (SqT.of z)), _, _, rfl, rfl, true, congrArg V.bl (decide_eq_true (show (1 : Int) ≤ _ by rw [lx]; omega)), iteT ?_⟩
    refine ⟨_, _, rfl, rfl, true, congrArg V.bl (decide_eq_true (show _ ≤ (10 : Int) by rw [lx]; omega)), iteF ?_⟩
    intro d hd
    have sd := same_new (o := .dK []) hd
    refine name_go ?_
    dsimp only
    have s1d := s1.trans sd
    refine seq_go ?_
    refine for_enum (K := K) (H0 := H1) rfl (hrow.same s1) (fun i σ H' => ∃ x2 x3 x4 : Option V, σ = [some (.ref R), some (.ref d), x2, x3, x4] ∧ H' d = some (.dK (seenV (nmsL (ls.take i)))) ∧ Same H1 H') ⟨none, none, none, rfl, upd_same, sd⟩ ?_ ?_ ?_
    · rintro j σ' H' ⟨_, _, _, _, _, sm⟩
      exact sm
    · rintro i z σ H2 T3 hz ⟨x2, x3, x4, rfl, ed, sm⟩ hT
      obtain ⟨r, ps, rfl, hp, _, hA⟩ := lin_elt lrs hI hz
      have mem := List.mem_of_getElem? hp
      have sT := same_new (o := .tup [.int (i : Nat), .ref r]) hT
      have s2 := s1.trans (sm.trans sT)
      obtain ⟨rest, esp⟩ := nmsL_split hp
      have ndj := ok.nd
      rw [esp] at ndj
      have nd1 := (List.nodup_append.mp ndj).1
      have few := ok.few
      rw [esp, List.length_append, List.length_append] at few
      refine ⟨T3, _, rfl, SqT.of upd_same, rfl, _, _, rfl, _, _, rfl, rfl, ?_⟩
      refine ⟨_, rfl, r, ps, rfl, hA.same s2, ok.ne ps mem, fun H4 s4 => ⟨_, rfl, iteF ?_⟩⟩
      have s24 := s2.trans s4
      refine ⟨_, rfl, r, ps, H, rfl, s24, hA, ok.deep ps mem, ?_, fun l ys H5 s5 nl el hF => ?_⟩
      · have z : (nmsP ps).length = (fdsL ps).length := List.length_map _
        omega
      refine ⟨l, rfl, ⟨_, SqL.of el⟩, ?_⟩
      have ed5 := s5 _ _ (s4 _ _ (sT _ _ ed))
      have dl : d ≠ l := ne_of_none (s4 _ _ (sT _ _ ed)) nl
      have ly : ys.length = (nmsP ps).length := by
        rw [hF.length, List.length_map]
        exact (List.length_map _).symm
      have lym : (ys.map V.ref).length = ys.length := List.length_map _
      have s15 : Same H1 H5 := ((sm.trans sT).trans s4).trans s5
      refine for_list (K := K) (xs := ys.map V.ref) (fun j σ H' => ∃ x4 : Option V, σ = [some (.ref R), some (.ref d), some (.int (i : Nat)), some (.ref r), x4] ∧ H' d = some (.dK (seenV (nmsL (ls.take i) ++ (nmsP ps).take j))) ∧ Same H1 H' ∧ H' l = some (.lst (ys.map V.ref))) ⟨x4, rfl, by rw [List.take_zero, List.append_nil]; exact ed5, s15, el⟩ (fun j σ H' _ h => by
        obtain ⟨_, _, _, _, e⟩ := h
        exact SqL.of e) ?_ ?_
      · rintro j y σ H6 hy ⟨x4, rfl, ed6, s6, el6⟩
        obtain ⟨it, a, rfl, hit, _, _, hAf⟩ := hF.elt hy
        rw [List.getElem?_map] at hit
        cases hf : (fdsL ps)[j]? with
        | none =>
          rw [hf] at hit
          cases hit
        | some p =>
          rw [hf] at hit
          cases hit
          obtain ⟨dx, kk, f1, f2⟩ := ItmAt.same (s1.trans s6) _ _ hAf
          have enj : (nmsP ps)[j]? = some p.1 := by
            unfold nmsP
            rw [List.getElem?_map, hf]
            rfl
          have tk : (nmsP ps).take (j + 1) = (nmsP ps).take j ++ [p.1] := by
            rw [List.take_add_one, enj]
            rfl
          have no : ¬ p.1 ∈ nmsL (ls.take i) ++ (nmsP ps).take j := fun m => by
            have sp : nmsP ps = (nmsP ps).take j ++ p.1 :: (nmsP ps).drop (j + 1) := by
              have z := (List.take_append_drop (j + 1) (nmsP ps)).symm
              rw [tk, List.append_assoc] at z
              exact z
            rw [sp, ← List.append_assoc] at nd1
            exact (List.nodup_append.mp nd1).2.2 _ m _ List.mem_cons_self rfl
          obtain ⟨v1, v2⟩ := seen_no no
          have lenS : (seenV (nmsL (ls.take i) ++ (nmsP ps).take j)).length < sizeLine := small1000 (by
            unfold seenV
            rw [List.length_map, List.length_append, List.length_take]
            omega)
          refine name_go ?_
          dsimp only
          refine ⟨_, rfl, a, FC, dx, _, _, rfl, f1, T.clF, T.nF1, lk_hit, _, rfl, d, _, rfl, DGet.k (k := Sum.inr p.1) ed6, ?_⟩
          rw [v1]
          refine ⟨_, rfl, iteF ?_⟩
          refine ⟨_, rfl, _, rfl, a, FC, dx, _, _, rfl, f1, T.clF, T.nF1, lk_hit, d, _, rfl, DPut.k (k := Sum.inr p.1) ed6 lenS, ?_⟩
          rw [v2]
          refine ⟨_, rfl, ?_, fun b o z => ?_, ?_⟩
          · rw [upd_same, tk, List.append_assoc]
          · rw [upd_ne (ne_of_none z hd)]
            exact s6 _ _ z
          · rw [upd_ne (Ne.symm dl)]
            exact el6
      · rintro σ H6 ⟨x4, rfl, ed6, s6, el6⟩
        rw [lym, ly, List.take_of_length_le (Nat.le_refl _), ← nmsL_take hp] at ed6
        exact ⟨_, _, _, rfl, ed6, s6⟩
    · rintro σ H2 ⟨x2, x3, x4, rfl, ed, sm⟩
      rw [lx, List.take_of_length_le (Nat.le_refl _)] at ed
      have s2 := s1.trans sm
      have few := ok.few
      have lS : (seenV (nmsL ls)).length = (nmsL ls).length := List.length_map _
      refine ⟨_, rfl, d, _, rfl, ed, _, _, rfl, rfl, _, rfl, ?_⟩
      refine (if_neg (fun z => by have z := of_decide_eq_true z; rw [lS] at z; omega)).mpr ?_
      refine ⟨_, rfl, R, ls, rfl, hLin.same s2, by omega, ok.deep, fun H3 s3 => ⟨_, _, rfl, rfl, _, rfl, ?_⟩⟩
      have siz := ok.siz
      refine (if_neg (fun z => by have z := of_decide_eq_true z; omega)).mpr ?_
      exact q H3 (s2.trans s3)
end
end K14

set_option autoImplicit false
set_option maxErrors 4
namespace K14
open PySem PySem.Spec PyProof.Rows L2 Tl
/-! ### nets of items -/
theorem orN_ok {n : LNet} (h : n.Ok) : (orN n).Ok := by
  obtain ⟨a, b, c, d, e⟩ := h
  refine ⟨a, b, c, ?_, e⟩
  refine or_lt d ?_
  exact Nat.lt_of_lt_of_le (show 1 < 2 ^ 1 by decide) (Nat.pow_le_pow_right (by decide) (by omega))
theorem textN_ok {t : Str} (h : t.cps.size ≤ 1000) : (textN t).Ok := by
  unfold LNet.Ok textN
  have l : (t.cps.toList.map fun c => (⟨#[c]⟩ : Str)).length = t.cps.size := by rw [List.length_map, Array.length_toList]
  refine ⟨by simp, by rw [l]; exact h, fun x hx => ?_, ?_, fun s hs => ?_⟩
  · show x < 2 ^ ((t.cps.toList.map fun c => (⟨#[c]⟩ : Str)).length + 1)
    rw [l]
    rcases List.mem_append.mp hx with hx | hx
    · obtain ⟨i, hi, rfl⟩ := List.mem_map.mp hx
      rw [List.mem_range] at hi
      rw [one_shl]
      exact Nat.pow_lt_pow_right (by decide) (by omega)
    · rw [List.mem_singleton.mp hx]
      exact Nat.two_pow_pos _
  · show 1 <<< t.cps.size < 2 ^ ((t.cps.toList.map fun c => (⟨#[c]⟩ : Str)).length + 1)
    rw [l, one_shl]
    exact Nat.pow_lt_pow_right (by decide) (by omega)
  · obtain ⟨c, _, rfl⟩ := List.mem_map.mp hs
    show 1 ≤ 1000
    decide
/-- all that was none is none below -/
def Old (HB H : Hp) : Prop := ∀ x, H x = none → HB x = none
theorem Old.same {HB H H' : Hp} (h : Old HB H) (s : Same H H') : Old HB H' := fun x hx => h x (s.free hx)
theorem NetNew.far2 {NC : Addr} {HB H H' : Hp} {r c f : Addr} {n : LNet} (o : Old HB H) (h : NetNew NC H H' r c f n) (hr : H r = none) (hc : H c = none) (hf : H f = none) : NetFar NC HB H' r n := (h.far hr hc hf).from o
theorem NetFar.same {NC : Addr} {HB H H' : Hp} {r : Addr} {n : LNet} (h : NetFar NC HB H r n) (s : Same H H') : NetFar NC HB H' r n := h.keep fun b o _ z => s b o z
section
variable {P : Program} {w : World} {K : PySem.W.Frag} {mg : Str → Option Value} {base : Heap} {C KC NC FC MC YC OC : Addr} {HB H : Hp}
def spTextN (NC : Addr) : Sp := fun vs H Q _ => ∃ t : Str, vs = [.str t] ∧ t.cps.size ≤ 500 ∧ GivesNet NC H Q (textN t)
set_option maxHeartbeats 20000000 in
theorem ok_text_net {f : Addr} {fd : FuncData} (F : FnP K "text_net" "text_net" s_text_net f fd) (N : Nms mg) (M : CanNet P w K mg base NC 2) : FnOk P w K mg base CX0 4 f fd ["text"] (spTextN NC) := by
  obtain ⟨fM, fdM, MM, gM, bM, GM⟩ := M
  have nd := sc_text_net.nd
  refine F.ok sc_text_net (fun vs H Q E h => ?_) (fun cdv A outer s H vs Q E hr h => ?_)
  · obtain ⟨t, rfl, _⟩ := h
    rfl
  · obtain ⟨t, rfl, ht, q⟩ := h
    refine ⟨_, PSs.nox (pss_cons (ps_set (i := 1) nd rfl (by first | exact .inl rfl | exact .inr rfl) (pe_callB call_len_str (by rfl) N.len PySem.boot_len (pa_cons (pv 0) pa_nil)))
      (pss_one (ps_ret (pe_make MM GM hr (by rfl) gM bM .nil pass0 (pa_cons (pe_callTy (call_listTx rfl) (by rfl) N.list (by decide +kernel) (pa_cons (pv 0) pa_nil)) (pa_cons (pe_op op_cat (pe_lc (own := [("at", 2)]) (g := gName 2) (tt := tYes) rfl nd (pi_range1 rfl N.range (pa_cons (pv 1) pa_nil)) (blkOk_by (N := ["text", "count", "at"]) (sc := defScope s_text_net) (by decide +kernel)) (fun _ _ _ _ _ => pg_name (i := 2) nd rfl (Or.inl rfl)) (fun _ _ _ _ _ => pts_nil)
          (fun _ _ _ _ _ => pe_op op_shlNat pe_int (pe_op op_addNat pe_int (pv 2)))) (pe_lst (pa_cons pe_int pa_nil))) (pa_cons (pe_op op_shlNat pe_int (pv 1)) pa_nil))))))), ?_⟩
    have ez : t = tx t.cps.toList := by
      obtain ⟨c⟩ := t
      exact congrArg Str.mk (Array.toArray_toList).symm
    have lt : t.cps.toList.length = t.cps.size := Array.length_toList
    have wide : 1 < 2 ^ 4000 := Nat.lt_of_lt_of_le (show 1 < 2 ^ 1 by decide) (Nat.pow_le_pow_right (by decide) (by decide))
    refine ⟨_, rfl, t, rfl, line_small (by show t.cps.size ≤ 16777216; omega), ?_⟩
    refine name_go ?_
    dsimp only
    refine ⟨_, rfl, t.cps.toList, by rw [← ez], line_small (by rw [lt]; omega), fun c hc => ?_⟩
    have s1 := same_new (o := .lst (t.cps.toList.map fun n => V.str (sg n))) hc
    refine ⟨_, rfl, ((t.cps.size : Nat) : Int), rfl, by omega, by omega, fun D hD => ?_⟩
    have tn : ((t.cps.size : Nat) : Int).toNat = t.cps.size := Int.toNat_natCast _
    have sD := same_new (o := .lst []) hD
    refine lc_range (lo := 0) (n := ((t.cps.size : Nat) : Int).toNat) (fun i H' => H' D = some (.lst (intsV ((List.range i).map fun t => 1 <<< (1 + t)))) ∧ Same (upd H c (.lst (t.cps.toList.map fun n => V.str (sg n)))) H') ⟨upd_same, sD⟩ ?_ ?_
    · rintro i H' hi ⟨e, sm⟩
      rw [tn] at hi
      refine ⟨rfl, yes_keep ?_⟩
      have ei : (0 : Int) + (i : Int) = ((i : Nat) : Int) := Int.zero_add _
      rw [ei]
      refine ⟨_, rfl, 1, i, rfl, rfl, 1, 1 + i, rfl, rfl, wide, by omega, _, e, ?_, ?_, fun b o z => ?_⟩
      · unfold intsV
        rw [List.length_map, List.length_map, List.length_range]
        exact small1000 (by omega)
      · rw [upd_same, List.range_succ]
        unfold intsV
        rw [List.map_append, List.map_append]
        rfl
      · rw [upd_ne (ne_of_none z hD)]
        exact sm _ _ z
    · rintro H1 ⟨e1, s2⟩
      rw [tn] at e1
      refine ⟨line_small (by show 1 ≤ 16777216; decide), fun b hb => ?_⟩
      have s3 := same_new (o := .lst [.int 0]) hb
      refine ⟨D, b, _, [.int 0], rfl, rfl, s3 _ _ e1, upd_same, ?_, fun fo hfo => ?_⟩
      · unfold intsV
        rw [List.length_map, List.length_map, List.length_range]
        exact line_small (by show t.cps.size + 1 ≤ 16777216; omega)
      have ef : intsV ((List.range t.cps.size).map fun t => 1 <<< (1 + t)) ++ [.int 0] = intsV (textN t).follow := by
        unfold intsV textN
        rw [List.map_append]
        rfl
      rw [ef]
      have s4 := same_new (o := .lst (intsV (textN t).follow)) hfo
      refine ⟨_, rfl, 1, t.cps.size, rfl, rfl, wide, by omega, ?_⟩
      have ec : (t.cps.toList.map fun n => V.str (sg n)) = strsV (textN t).chars := by
        unfold strsV textN
        rw [List.map_map]
        rfl
      have s12 := s1.trans s2
      have s14 := (s12.trans s3).trans s4
      have hc4 := (s2.trans (s3.trans s4)) _ _ (upd_same (H := H) (a := c) (o := .lst (t.cps.toList.map fun n => V.str (sg n))))
      rw [ec] at hc4
      exact make_net (n := textN t) (textN_ok (by omega)) hc4 upd_same fun r H' sm hr0 at_ => q r c fo H' (s14.trans sm) (s14.free hr0) hc ((s12.trans s3).free hfo) (at_.of s14)
/-- a net, and where its parts lie: they stood in H0 already, or they are new since H -/
def NetX (NC : Addr) (HB H0 H H' : Hp) (r : Addr) (n : LNet) : Prop := ∃ dx c f d, (HB r = none ∧ HB c = none ∧ HB f = none ∧ HB d = none) ∧ ((H0 r ≠ none ∨ H r = none) ∧ (H0 c ≠ none ∨ H c = none) ∧ (H0 f ≠ none ∨ H f = none) ∧ (H0 d ≠ none ∨ H d = none)) ∧
  H' r = some (.ins NC dx (netF c f d n.exits)) ∧ H' c = some (.lst (strsV n.chars)) ∧ H' f = some (.lst (intsV n.follow)) ∧ H' d = some (.dK (standsFor n.chars))
theorem NetX.far {H0 H' : Hp} {r : Addr} {n : LNet} (h : NetX NC HB H0 H H' r n) : NetFar NC HB H' r n := by
  obtain ⟨dx, c, f, d, o, _, h⟩ := h
  exact ⟨dx, c, f, d, o, h⟩
theorem NetX.back {H0 H1 H' : Hp} {r : Addr} {n : LNet} (h : NetX NC HB H0 H1 H' r n) (s : Same H H1) : NetX NC HB H0 H H' r n := by
  obtain ⟨dx, c, f, d, o, ⟨a1, a2, a3, a4⟩, h⟩ := h
  exact ⟨dx, c, f, d, o, ⟨a1.imp id s.free, a2.imp id s.free, a3.imp id s.free, a4.imp id s.free⟩, h⟩
theorem NetX.back2 {H0 H1 H' : Hp} {r : Addr} {n : LNet} (h : NetX NC HB H0 H1 H' r n) (s : ∀ x, H1 x = none → H x = none) : NetX NC HB H0 H H' r n := by
  obtain ⟨dx, c, f, d, o, ⟨a1, a2, a3, a4⟩, h⟩ := h
  exact ⟨dx, c, f, d, o, ⟨a1.imp id (s _), a2.imp id (s _), a3.imp id (s _), a4.imp id (s _)⟩, h⟩
theorem NetX.same {H0 H1 H2 : Hp} {r : Addr} {n : LNet} (h : NetX NC HB H0 H H1 r n) (s : Same H1 H2) : NetX NC HB H0 H H2 r n := by
  obtain ⟨dx, c, f, d, o, p, h1, h2, h3, h4⟩ := h
  exact ⟨dx, c, f, d, o, p, s _ _ h1, s _ _ h2, s _ _ h3, s _ _ h4⟩
/-- it stays when what was made between H0 and H is changed -/
theorem NetX.put {H0 H1 : Hp} {r D : Addr} {n : LNet} {o u : HO} (h : NetX NC HB H0 H H1 r n) (h0 : H0 D = none) (hD : H D = some o) : NetX NC HB H0 H (upd H1 D u) r n := by
  obtain ⟨dx, c, f, d, a, ⟨p1, p2, p3, p4⟩, h1, h2, h3, h4⟩ := h
  have ne : ∀ {x : Addr}, (H0 x ≠ none ∨ H x = none) → x ≠ D := fun {x} z e => by
    subst e
    rcases z with z | z
    · exact z h0
    · rw [hD] at z
      cases z
  exact ⟨dx, c, f, d, a, ⟨p1, p2, p3, p4⟩, by rw [upd_ne (ne p1)]; exact h1, by rw [upd_ne (ne p2)]; exact h2, by rw [upd_ne (ne p3)]; exact h3, by rw [upd_ne (ne p4)]; exact h4⟩
theorem NetNew.x {H0 H' : Hp} {r c f : Addr} {n : LNet} (h : NetNew NC H H' r c f n) (old : Old HB H) (hr : H r = none) (hc : H c = none) (hf : H f = none) : NetX NC HB H0 H H' r n := by
  obtain ⟨dx, d, hd, h⟩ := h
  exact ⟨dx, c, f, d, ⟨old _ hr, old _ hc, old _ hf, old _ hd⟩, ⟨.inr hr, .inr hc, .inr hf, .inr hd⟩, h⟩
theorem NetFar.x {H0 H1 : Hp} {r : Addr} {n : LNet} (h : NetFar NC HB H0 r n) (s : Same H0 H1) : NetX NC HB H0 H H1 r n := by
  obtain ⟨dx, c, f, d, o, h1, h2, h3, h4⟩ := h
  have no : ∀ {x : Addr} {u : HO}, H0 x = some u → H0 x ≠ none := fun {x u} e z => by rw [e] at z; cases z
  exact ⟨dx, c, f, d, o, ⟨.inl (no h1), .inl (no h2), .inl (no h3), .inl (no h4)⟩, s _ _ h1, s _ _ h2, s _ _ h3, s _ _ h4⟩
def spOrN (NC : Addr) : Sp := fun vs H Q _ => ∃ (n dx c f d : Addr) (N : LNet), vs = [.ref n] ∧ H n = some (.ins NC dx (netF c f d N.exits)) ∧ H c = some (.lst (strsV N.chars)) ∧ H f = some (.lst (intsV N.follow)) ∧ N.Ok ∧
  ∀ r dx2 d2 H', Same H H' → H r = none → H d2 = none → H' r = some (.ins NC dx2 (netF c f d2 (orN N).exits)) → H' d2 = some (.dK (standsFor N.chars)) → Q (.ref r) H'
set_option maxHeartbeats 20000000 in
theorem ok_or_nothing {f : Addr} {fd : FuncData} (F : FnP K "or_nothing" "or_nothing" s_or_nothing f fd) (gS : ∃ t, mg "START" = some (.int 1 t)) (T : NetC K NC) (M : CanNet P w K mg base NC 2) : FnOk P w K mg base CX0 4 f fd ["net"] (spOrN NC) := by
  obtain ⟨fM, fdM, MM, gM, bM, GM⟩ := M
  obtain ⟨tS, gS⟩ := gS
  refine F.ok sc_or_nothing (fun vs H Q E h => ?_) (fun cdv A outer s H vs Q E hr h => ?_)
  · obtain ⟨n, dx, c, f, d, N, rfl, _⟩ := h
    rfl
  · obtain ⟨n, dx, c, fo, d, N, rfl, h1, h2, h3, ok, q⟩ := h
    refine ⟨_, PSs.nox (pss_one (ps_ret (pe_make MM GM hr (by rfl) gM bM .nil pass0 (pa_cons (pe_fld (pv 0) rfl) (pa_cons (pe_fld (pv 0) rfl) (pa_cons (pe_op op_orNat (pe_fld (pv 0) rfl) (pe_glob (v := .int 1) (by rfl) gS ⟨_, rfl⟩)) pa_nil)))))), ?_⟩
    refine ⟨_, rfl, n, NC, dx, _, _, rfl, h1, T.cl, T.n1, lkC, _, rfl, n, NC, dx, _, _, rfl, h1, T.cl, T.n2, lkF, _, rfl, n, NC, dx, _, _, rfl, h1, T.cl, T.n3, lkE, N.exits, 1, rfl, rfl, ?_⟩
    exact make_net (n := orN N) (orN_ok ok) h2 h3 fun r H' sm hr0 at_ => by
      obtain ⟨dx2, d2, hd2, g1, g2, g3, g4⟩ := at_
      exact q r dx2 d2 H' sm hr0 hd2 g1 g4
end
end K14

set_option autoImplicit false
set_option maxErrors 4
namespace K14
open PySem PySem.Spec PyProof.Rows L2 Tl
/-! ### the nets of items and rows -/
mutual
/-- the strings of the places -/
def chrI : Itm → List Str
  | .fld _ rows => (kindN rows).chars
  | .mrk t => t.cps.toList.map fun c => ⟨#[c]⟩
  | .grp ps => chrL ps
def chrL : List Itm → List Str
  | [] => []
  | i :: r => chrI i ++ chrL r
end
mutual
def okI : Itm → Prop
  | .fld _ rows => (kindN rows).Ok
  | .mrk t => t.cps.size ≤ 200
  | .grp ps => okL ps
def okL : List Itm → Prop
  | [] => True
  | i :: r => okI i ∧ okL r
end
theorem chain_chars (ns : List LNet) : ∀ acc : LNet, (ns.foldl chainStep acc).chars = acc.chars ++ ns.flatMap (·.chars) := by
  induction ns with
  | nil => exact fun acc => (List.append_nil _).symm
  | cons n ns ih =>
    intro acc
    rw [List.foldl_cons, ih, List.flatMap_cons, ← List.append_assoc]
    rfl
theorem chainL_chars (ns : List LNet) : (chainL ns).chars = ns.flatMap (·.chars) := by
  unfold chainL
  rw [chain_chars]
  rfl
theorem chainL_ok {ns : List LNet} (h : ∀ n ∈ ns, n.Ok) (l : charsOf ns ≤ 1000) : (chainL ns).Ok := (chain_ok ns chain0 chain0_ok h (by
  show 0 + charsOf ns ≤ 1000
  omega)).1
mutual
theorem netI_facts : ∀ i : Itm, okI i → sizI i ≤ 500 → (netI i).Ok ∧ (netI i).chars = chrI i ∧ (chrI i).length = sizI i
  | .fld n rows, h, _ => ⟨h, rfl, rfl⟩
  | .mrk t, h, _ => ⟨textN_ok (Nat.le_trans (show t.cps.size ≤ 200 from h) (by decide)), rfl, by
      show (t.cps.toList.map fun c => (⟨#[c]⟩ : Str)).length = t.cps.size
      rw [List.length_map, Array.length_toList]⟩
  | .grp ps, h, l => by
    obtain ⟨a, b, c, d⟩ := netsR_facts ps h l
    refine ⟨orN_ok (chainL_ok a ?_), ?_, d⟩
    · have l : sizL ps ≤ 500 := l
      omega
    · show (chainL (netsR ps)).chars = chrL ps
      rw [chainL_chars, b]
theorem netsR_facts : ∀ ps : List Itm, okL ps → sizL ps ≤ 500 → (∀ n ∈ netsR ps, n.Ok) ∧ (netsR ps).flatMap (·.chars) = chrL ps ∧ charsOf (netsR ps) = sizL ps ∧ (chrL ps).length = sizL ps
  | [], _, _ => ⟨fun n h => (by cases h), rfl, rfl, rfl⟩
  | i :: r, h, l => by
    have l : sizI i + sizL r ≤ 500 := l
    obtain ⟨a1, b1, c1⟩ := netI_facts i h.1 (by omega)
    obtain ⟨a2, b2, c2, d2⟩ := netsR_facts r h.2 (by omega)
    refine ⟨fun n hn => ?_, ?_, ?_, ?_⟩
    · rcases List.mem_cons.mp hn with rfl | hn
      · exact a1
      · exact a2 n hn
    · show (netI i).chars ++ (netsR r).flatMap (·.chars) = chrI i ++ chrL r
      rw [b1, b2]
    · have e : charsOf (netsR (i :: r)) = (netI i).chars.length + charsOf (netsR r) := rfl
      rw [e, b1, c1, c2]
      rfl
    · show (chrI i ++ chrL r).length = sizI i + sizL r
      rw [List.length_append, c1, d2]
end
theorem netsR_map : ∀ ps : List Itm, netsR ps = ps.map netI
  | [] => rfl
  | i :: r => by
    show netI i :: netsR r = netI i :: r.map netI
    rw [netsR_map r]
section
variable {P : Program} {w : World} {K : PySem.W.Frag} {mg : Str → Option Value} {base : Heap} {C KC NC FC MC YC OC : Addr} {HB H : Hp}
mutual
theorem ItmAt.ok : ∀ (i : Itm) (a : Addr), ItmAt FC MC YC KC NC HB H i a → okI i
  | .fld n rows, a, h => by
    obtain ⟨dx, k, h1, h2, h3⟩ := h
    exact h3.1
  | .mrk t, a, h => by
    obtain ⟨dx, h1, h2⟩ := h
    exact h2.hi
  | .grp ps, a, h => by
    obtain ⟨dx, p, xs, h1, h2, h3, h4⟩ := h
    exact ItmsAt.ok ps xs h3
theorem ItmsAt.ok : ∀ (ps : List Itm) (xs : List Addr), ItmsAt FC MC YC KC NC HB H ps xs → okL ps
  | [], xs, h => True.intro
  | i :: r, xs, h => by
    obtain ⟨a, as, e, h1, h2⟩ := h
    exact ⟨ItmAt.ok i a h1, ItmsAt.ok r as h2⟩
end
theorem okL_mem {ps : List Itm} {i : Itm} (h : okL ps) (m : i ∈ ps) : okI i := by
  induction ps with
  | nil => cases m
  | cons x r ih =>
    rcases List.mem_cons.mp m with rfl | m
    · exact h.1
    · exact ih h.2 m
def spInet (FC MC YC KC NC : Addr) (HB : Hp) (d : Nat) : Sp := fun vs H Q _ => ∃ (i : Itm) (a : Addr) (H0 : Hp), vs = [.ref a] ∧ Same H0 H ∧ ItmAt FC MC YC KC NC HB H0 i a ∧ depI i ≤ d ∧ sizI i ≤ 500 ∧ Old HB H ∧ ∀ r H', Same H H' → NetX NC HB H0 H H' r (netI i) → Q (.ref r) H'
def spRnet (FC MC YC KC NC : Addr) (HB : Hp) (d : Nat) : Sp := fun vs H Q _ => ∃ (r : Addr) (ps : List Itm) (H0 : Hp), vs = [.ref r] ∧ Same H0 H ∧ RowI FC MC YC KC NC HB H0 r ps ∧ depL ps < d ∧ sizL ps ≤ 500 ∧ Old HB H ∧ ∀ r H', Same H H' → NetX NC HB H0 H H' r (chainL (netsR ps)) → Q (.ref r) H'
set_option maxHeartbeats 20000000 in
theorem ok_inet {d : Nat} {f fR : Addr} {fd fdR : FuncData} (F : FnP K "item_net" "item_net" s_item_net f fd) (T : Town K mg C KC NC FC MC YC OC) (N : Nms mg) (C1 : Can P w K mg base CX0 "text_net" ["text"] 4 (spTextN NC)) (C2 : Can P w K mg base CX0 "or_nothing" ["net"] 4 (spOrN NC))
    (GR : FnOk P w K mg base CX0 (2 * d + 4) fR fdR ["row"] (spRnet FC MC YC KC NC HB d)) (gR : mg "row_net" = some (.ref fR)) (kR : PySem.W.keepIn K (.ref fR) = true) (bR : Binds K fdR ["row"] []) : FnOk P w K mg base CX0 (2 * d + 5) f fd ["item"] (spInet FC MC YC KC NC HB d) := by
  obtain ⟨f1, fd1, G1, g1, k1, b1⟩ := C1
  obtain ⟨f2, fd2, G2, g2, k2, b2⟩ := C2
  refine F.ok sc_item_net (fun vs H Q E h => ?_) (fun cdv A outer s H vs Q E hr h => ?_)
  · obtain ⟨i, a, H0, rfl, _⟩ := h
    rfl
  · obtain ⟨i, a, H0, rfl, s0, hI0, hd, siz, old, q⟩ := h
    have hI := ItmAt.same s0 i a hI0
    have r4 := hr.mono (show 4 ≤ 2 * d + 4 by omega)
    refine ⟨_, PSs.nox (pss_cons (ps_if (pt_val (pe_callB call_isi (by rfl) N.isi (by decide +kernel) (pa_cons (pv 0) (pa_cons (pe_glob (v := .ref FC) rfl T.gF rfl) pa_nil)))) (pss_one (ps_ret (pe_fld (pe_fld (pv 0) rfl) rfl))) pss_nil)
      (pss_cons (ps_if (pt_val (pe_callB call_isi (by rfl) N.isi (by decide +kernel) (pa_cons (pv 0) (pa_cons (pe_glob (v := .ref MC) rfl T.gM rfl) pa_nil)))) (pss_one (ps_ret (pe_call G1 r4 (by rfl) g1 k1 b1 .nil pass0 (pa_cons (pe_fld (pv 0) rfl) pa_nil)))) pss_nil)
      (pss_one (ps_ret (pe_call G2 r4 (by rfl) g2 k2 b2 .nil pass0 (pa_cons (pe_call GR hr (by rfl) gR kR bR .nil pass0 (pa_cons (pe_fld (pv 0) rfl) pa_nil)) pa_nil)))))), ?_⟩
    have ty := ItmAt.ty T hI
    have oki := ItmAt.ok i a hI
    refine ⟨_, rfl, _, _, _, _, isF i, rfl, .own FC, ty, T.kF i, isF i, rfl, ?_⟩
    cases i with
    | fld n rows =>
      obtain ⟨dx, k, h1, ⟨dk, t, m, rs, e1, e2, e3, e4, e5⟩, h3⟩ := hI0
      refine iteT ?_
      exact ⟨_, rfl, a, FC, dx, _, _, rfl, s0 _ _ h1, T.clF, T.nF2, (lk_ne (by decide +kernel)).trans lk_hit, k, KC, dk, _, _, rfl, s0 _ _ e1, T.kd.cl, T.kd.n2, (lk_ne (by decide +kernel)).trans lk_hit, q m H (Same.refl _) (e5.x s0)⟩
    | mrk t =>
      obtain ⟨dx, h1, ok⟩ := hI
      refine iteF ?_
      refine ⟨_, rfl, _, _, _, _, true, rfl, .own MC, ty, T.own mM, true, rfl, iteT ?_⟩
      exact ⟨_, rfl, a, MC, dx, _, _, rfl, h1, T.clM, T.nM, lk_hit, t, rfl, (by have := ok.hi; omega), fun r c fo H' sm hr0 hc hf new => q r H' sm (new.x old hr0 hc hf)⟩
    | grp ps =>
      obtain ⟨dx, p, xs, h1, h2, h3, h4⟩ := hI0
      refine iteF ?_
      refine ⟨_, rfl, _, _, _, _, false, rfl, .own MC, ty, T.no mY mM (Ne.symm T.ne.2.2.2.1), false, rfl, iteF ?_⟩
      have hd : 1 + depL ps ≤ d := hd
      obtain ⟨a1, b1, c1, _⟩ := netsR_facts ps oki siz
      have siz : sizL ps ≤ 500 := siz
      refine ⟨_, rfl, a, YC, dx, _, _, rfl, s0 _ _ h1, T.clY, T.nY, lk_hit, p, ps, H0, rfl, s0, ⟨xs, .inr h2, h3, h4⟩, by omega, siz, old, fun r H' sm far => ?_⟩
      obtain ⟨dn, c, fo, dd, ⟨o1, o2, o3, o4⟩, ⟨p1, p2, p3, p4⟩, n1, n2, n3, n4⟩ := far
      exact ⟨r, dn, c, fo, dd, _, rfl, n1, n2, n3, chainL_ok a1 (by omega), fun r2 dx2 d2 H2 s2 hr2 hd2 g1 g2 => q r2 H2 (sm.trans s2) ⟨dx2, c, fo, d2, ⟨(old.same sm) _ hr2, o2, o3, (old.same sm) _ hd2⟩, ⟨.inr (sm.free hr2), p2, p3, .inr (sm.free hd2)⟩, g1, s2 _ _ n2, s2 _ _ n3, g2⟩⟩
set_option maxHeartbeats 20000000 in
theorem ok_rnet {d : Nat} {f fI : Addr} {fd fdI : FuncData} (F : FnP K "row_net" "row_net" s_row_net f fd) (C1 : Can P w K mg base CX0 "chained" ["nets"] 4 (spNets NC chainL)) (GI : FnOk P w K mg base CX0 (2 * d + 5) fI fdI ["item"] (spInet FC MC YC KC NC HB d)) (gI : mg "item_net" = some (.ref fI)) (kI : PySem.W.keepIn K (.ref fI) = true) (bI : Binds K fdI ["item"] []) :
    FnOk P w K mg base CX0 (2 * (d + 1) + 4) f fd ["row"] (spRnet FC MC YC KC NC HB (d + 1)) := by
  obtain ⟨f1, fd1, G1, g1, k1, b1⟩ := C1
  have nd := sc_row_net.nd
  refine F.ok (k := 2 * d + 5) sc_row_net (fun vs H Q E h => ?_) (fun cdv A outer s H vs Q E hr h => ?_)
  · obtain ⟨r, ps, H0, rfl, _⟩ := h
    rfl
  · obtain ⟨r, ps, H0, rfl, s0, ⟨xs, hrow, hI, hl⟩, hd, siz, old, q⟩ := h
    have r4 := hr.mono (show 4 ≤ 2 * d + 5 by omega)
    refine ⟨_, PSs.nox (pss_one (ps_ret (pe_call G1 r4 (by rfl) g1 k1 b1 .nil pass0 (pa_cons (pe_lc (own := [("item", 1)]) (g := gName 1) (tt := tYes) rfl nd (pi_seq (pv 0)) (blkOk_by (N := ["row", "item"]) (sc := defScope s_row_net) (by decide +kernel)) (fun _ _ _ _ _ => pg_name (i := 1) nd rfl (Or.inl rfl)) (fun _ _ _ _ _ => pts_nil) (fun _ _ _ _ _ => (pe_call GI hr (by rfl) gI kI bI .nil pass0 (pa_cons (pv 1) pa_nil)))) pa_nil)))), ?_⟩
    have lx : (xs.map V.ref).length = ps.length := by rw [List.length_map, hI.length]
    have okl := ItmsAt.ok ps xs hI
    obtain ⟨a1, b1', c1, _⟩ := netsR_facts ps okl siz
    refine ret_go ?_
    refine (show tLc (iSeq K (tVar 0)) (gName 1) tYes (tCall (spInet FC MC YC KC NC HB d) [] E0 (tCons (tVar 1) tNil)) [1] _ H (fun x H1 => spNets NC chainL [x] H1 Q E0) from ?_)
    refine lc_seq (K := K) rfl (hrow.same s0) (fun D j H' => ∃ ns : Prs, ns.length = j ∧ netsP ns = (netsR ps).take j ∧ H' D = some (.lst (refsP ns)) ∧ Same H H' ∧ ∀ x ∈ ns, NetX NC HB H0 (upd H D (.lst [])) H' x.1 x.2) (fun D hD => ⟨[], rfl, rfl, upd_same, same_new hD, fun x hx => by cases hx⟩) (fun D j H' p => by
      obtain ⟨_, _, _, _, sm, _⟩ := p
      exact sm) (fun D hD j x H' hj hx p => ?_) fun D hD H' p => ?_
    · obtain ⟨ns, l1, l2, e, sm, far⟩ := p
      obtain ⟨i, a, rfl, hi, _, _, hA⟩ := hI.elt hx
      have mem := List.mem_of_getElem? hi
      have dl := depL_le mem
      have sl := sizI_le mem
      have sD : ∀ x, H' x = none → (upd H D (.lst [])) x = none := fun x hx => by
        rw [upd_ne (fun y => by rw [y, e] at hx; cases hx)]
        exact sm.free hx
      have h0D : H0 D = none := s0.free hD
      have tk : (netsR ps).take (j + 1) = (netsR ps).take j ++ [netI i] := by
        rw [netsR_map, List.take_add_one, List.getElem?_map, hi]
        rfl
      refine ⟨rfl, yes_keep ?_⟩
      refine ⟨_, rfl, i, a, H0, rfl, s0.trans sm, hA, by omega, by omega, old.same sm, fun r2 H2 s2 x2 => ?_⟩
      refine ⟨_, s2 _ _ e, ?_, ns ++ [(r2, netI i)], ?_, ?_, ?_, fun b o z => ?_, fun y hy => ?_⟩
      · unfold refsP
        rw [List.length_map]
        exact line_small (by rw [lx] at hj; omega)
      · rw [List.length_append, l1]
        rfl
      · unfold netsP at l2 ⊢
        rw [List.map_append, l2, tk]
        rfl
      · rw [upd_same]
        unfold refsP
        rw [List.map_append]
        rfl
      · rw [upd_ne (ne_of_none z hD)]
        exact s2 _ _ (sm _ _ z)
      · rcases List.mem_append.mp hy with hy | hy
        · exact ((far y hy).same s2).put h0D upd_same
        · rw [List.mem_singleton.mp hy]
          exact (x2.put h0D e).back2 sD
    · obtain ⟨ns, l1, l2, e, sm, far⟩ := p
      have ln : (netsR ps).length = ps.length := by rw [netsR_map, List.length_map]
      rw [lx, ← ln, List.take_of_length_le (Nat.le_refl _)] at l2
      refine ⟨D, ns, rfl, e, fun x hx => ⟨(far x hx).far.at, a1 _ (by rw [← l2]; exact List.mem_map.mpr ⟨x, hx, rfl⟩)⟩, by rw [l2]; omega, ?_⟩
      rw [l2]
      exact fun r2 c fo H2 s2 hr2 hc hf new => q r2 H2 (sm.trans s2) ((new.x (old.same sm) hr2 hc hf).back sm)
/-- the nets of items and rows, at every depth -/
theorem ok_nets {fR fI : Addr} {fdR fdI : FuncData} (FR : FnP K "row_net" "row_net" s_row_net fR fdR) (FI : FnP K "item_net" "item_net" s_item_net fI fdI) (T : Town K mg C KC NC FC MC YC OC) (N : Nms mg) (C1 : Can P w K mg base CX0 "text_net" ["text"] 4 (spTextN NC)) (C2 : Can P w K mg base CX0 "or_nothing" ["net"] 4 (spOrN NC)) (C3 : Can P w K mg base CX0 "chained" ["nets"] 4 (spNets NC chainL))
    (gR : mg "row_net" = some (.ref fR)) (kR : PySem.W.keepIn K (.ref fR) = true) (bR : Binds K fdR ["row"] []) (gI : mg "item_net" = some (.ref fI)) (kI : PySem.W.keepIn K (.ref fI) = true) (bI : Binds K fdI ["item"] []) : ∀ d, FnOk P w K mg base CX0 (2 * d + 4) fR fdR ["row"] (spRnet FC MC YC KC NC HB d) ∧ FnOk P w K mg base CX0 (2 * d + 5) fI fdI ["item"] (spInet FC MC YC KC NC HB d)
  | 0 => by
    have R : FnOk P w K mg base CX0 (2 * 0 + 4) fR fdR ["row"] (spRnet FC MC YC KC NC HB 0) := ⟨fun vs H Q E h => (by obtain ⟨r, ps, _, _, _, _, h, _⟩ := h; omega), fun A outer s H args us vs Q E _ _ _ _ h => (by obtain ⟨r, ps, _, _, _, _, h, _⟩ := h; omega)⟩
    exact ⟨R, ok_inet FI T N C1 C2 R gR kR bR⟩
  | d + 1 => by
    obtain ⟨_, I⟩ := ok_nets FR FI T N C1 C2 C3 gR kR bR gI kI bI d
    have R := ok_rnet FR C3 I gI kI bI
    exact ⟨R, ok_inet FI T N C1 C2 R gR kR bR⟩
end
end K14

set_option autoImplicit false
set_option maxErrors 4
namespace K14
open PySem PySem.Spec PyProof.Rows L2 Tl
/-! ### lines under each other -/
def feedS : Str := ⟨#[10]⟩
def lineFirst (a l : LNet) : Nat := a.follow.getD 0 0 ||| (if a.exits &&& 1 = 0 then 0 else ren (l.follow.getD 0 0) (a.chars.length + 1))
def lineN (a l : LNet) : LNet :=
  ⟨a.chars ++ [feedS] ++ l.chars, [lineFirst a l] ++ (joinF a.follow a.exits (1 <<< (a.chars.length + 1))).drop 1 ++ [ren (l.follow.getD 0 0) (a.chars.length + 1)] ++ (l.follow.drop 1).map (fun x => ren x (a.chars.length + 1)),
    ren (l.exits / 2 * 2) (a.chars.length + 1) ||| (if l.exits &&& 1 = 0 then 0 else a.exits)⟩
theorem joinF_len (fo : List Nat) (ex f : Nat) : (joinF fo ex f).length = fo.length := by
  unfold joinF
  rw [List.length_map, List.length_range]
theorem joinF_mem {fo : List Nat} {ex f k : Nat} (h : ∀ x ∈ fo, x < 2 ^ k) (hf : f < 2 ^ k) : ∀ x ∈ joinF fo ex f, x < 2 ^ k := fun x hx => by
  unfold joinF at hx
  obtain ⟨j, _, rfl⟩ := List.mem_map.mp hx
  split
  · exact getD_lt h
  · exact or_lt (getD_lt h) hf
theorem lineN_ok {a l : LNet} (ha : a.Ok) (hl : l.Ok) (small : a.chars.length + l.chars.length + 1 ≤ 1000) : (lineN a l).Ok := by
  obtain ⟨a1, a2, a3, a4, a5⟩ := ha
  obtain ⟨n1, n2, n3, n4, n5⟩ := hl
  have up : ∀ {x : Nat}, x < 2 ^ (l.chars.length + 1) → ren x (a.chars.length + 1) < 2 ^ (a.chars.length + 1 + l.chars.length + 1) := fun {x} h => by
    have z := ren_lt (s := a.chars.length + 1) h
    rw [show l.chars.length + (a.chars.length + 1) + 1 = a.chars.length + 1 + l.chars.length + 1 by omega] at z
    exact z
  have wd : ∀ {x : Nat}, x < 2 ^ (a.chars.length + 1) → x < 2 ^ (a.chars.length + 1 + l.chars.length + 1) := fun {x} h => lt_mono h (by omega)
  have fd : 1 <<< (a.chars.length + 1) < 2 ^ (a.chars.length + 1 + l.chars.length + 1) := by
    rw [one_shl]
    exact Nat.pow_lt_pow_right (by decide) (by omega)
  have len : (lineN a l).chars.length = a.chars.length + 1 + l.chars.length := by
    unfold lineN
    simp only [List.length_append, List.length_singleton]
  unfold LNet.Ok
  rw [len]
  refine ⟨?_, by omega, fun x hx => ?_, ?_, fun s h => ?_⟩
  · unfold lineN
    simp only [List.length_append, List.length_singleton, List.length_map, List.length_drop, joinF_len]
    omega
  · rcases List.mem_append.mp (show x ∈ ([lineFirst a l] ++ (joinF a.follow a.exits (1 <<< (a.chars.length + 1))).drop 1 ++ [ren (l.follow.getD 0 0) (a.chars.length + 1)]) ++ (l.follow.drop 1).map (fun x => ren x (a.chars.length + 1)) from hx) with hx | hx
    · rcases List.mem_append.mp hx with hx | hx
      · rcases List.mem_append.mp hx with hx | hx
        · rw [List.mem_singleton.mp hx]
          unfold lineFirst
          refine or_lt (wd (getD_lt a3)) ?_
          split
          · exact Nat.two_pow_pos _
          · exact up (getD_lt n3)
        · exact joinF_mem (fun x hx => wd (a3 x hx)) fd x (List.mem_of_mem_drop hx)
      · rw [List.mem_singleton.mp hx]
        exact up (getD_lt n3)
    · obtain ⟨y, hy, rfl⟩ := List.mem_map.mp hx
      exact up (n3 y (List.mem_of_mem_drop hy))
  · show ren (l.exits / 2 * 2) (a.chars.length + 1) ||| (if l.exits &&& 1 = 0 then 0 else a.exits) < _
    refine or_lt (up (by omega)) ?_
    split
    · exact Nat.two_pow_pos _
    · exact wd a4
  · rcases List.mem_append.mp (show s ∈ (a.chars ++ [feedS]) ++ l.chars from h) with h | h
    · rcases List.mem_append.mp h with h | h
      · exact a5 s h
      · rw [List.mem_singleton.mp h]
        decide
    · exact n5 s h
section
variable {P : Program} {w : World} {K : PySem.W.Frag} {mg : Str → Option Value} {base : Heap} {C KC NC FC MC YC OC : Addr} {HB H : Hp}
abbrev rAndN : R2 := fun x y H Q => ∃ n m : Nat, x = .int n ∧ y = .int m ∧ Q (.int ((n &&& m : Nat) : Int)) H
abbrev rShrN : R2 := fun x y H Q => ∃ n k : Nat, x = .int n ∧ y = .int k ∧ Q (.int ((n >>> k : Nat) : Int)) H
def spLineA (NC : Addr) : Sp := fun vs H Q _ => ∃ (a l : Addr) (A L : LNet), vs = [.ref a, .ref l] ∧ NetAt NC H a A ∧ NetAt NC H l L ∧ A.Ok ∧ L.Ok ∧ A.chars.length + L.chars.length + 1 ≤ 500 ∧ GivesNet NC H Q (lineN A L)
set_option maxHeartbeats 40000000 in
theorem ok_line {f : Addr} {fd : FuncData} (F : FnP K "line_added" "line_added" s_line_added f fd) (N : Nms mg) (gS : ∃ t, mg "START" = some (.int 1 t)) (gF : ∃ t, mg "FEED" = some (.str feedS t)) (T : NetC K NC) (R : Can P w K mg base CX0 "renumbered" ["places", "shift"] 1 spRen) (M : CanNet P w K mg base NC 2) : FnOk P w K mg base CX0 4 f fd ["above", "line"] (spLineA NC) := by
  obtain ⟨tS, gS⟩ := gS
  obtain ⟨tF, gF⟩ := gF
  obtain ⟨fR, fdR, GR, gR, kR, bR⟩ := R
  obtain ⟨fM, fdM, MM, gM, bM, GM⟩ := M
  have nd := sc_line_added.nd
  refine F.ok sc_line_added (fun vs H Q E h => ?_) (fun cdv A outer s H vs Q E hr h => ?_)
  · obtain ⟨a, l, A, L, rfl, _⟩ := h
    rfl
  · obtain ⟨a, l, A1, L, rfl, nA, nL, okA, okL, small, q⟩ := h
    have r1 := hr.mono (show 1 ≤ 3 by decide)
    refine ⟨_, PSs.nox (pss_cons (ps_set (i := 2) nd rfl (by first | exact .inl rfl | exact .inr rfl) (pe_op op_add (pe_callB call_len_seq (by rfl) N.len PySem.boot_len (pa_cons (pe_fld (pv 0) rfl) pa_nil)) pe_int))
      (pss_cons (ps_set (i := 3) nd rfl (by first | exact .inl rfl | exact .inr rfl) (pe_op op_shlNat pe_int (pv 2)))
      (pss_cons (ps_set (i := 4) nd rfl (by first | exact .inl rfl | exact .inr rfl) (pe_call GR r1 (by rfl) gR kR bR .nil pass0 (pa_cons (pe_ix (r := rIxL K) ix_list (pe_fld (pv 1) rfl) pe_int (fun _ _ => rfl)) (pa_cons (pv 2) pa_nil))))
      (pss_cons (ps_set (i := 5) nd rfl (by first | exact .inl rfl | exact .inr rfl) (pe_op op_orNat (pe_ix (r := rIxL K) ix_list (pe_fld (pv 0) rfl) pe_int (fun _ _ => rfl)) (pe_ifExp (pt_int (pe_op op_andNat (pe_fld (pv 0) rfl) (pe_glob (v := .int 1) (by rfl) gS ⟨_, rfl⟩))) (pv 4) pe_int)))
      (pss_cons (ps_set (i := 8) nd rfl (by first | exact .inl rfl | exact .inr rfl) (pe_slice (r := rSlL K) sl_list (pe_lc (own := [("at", 6), ("ways", 7)]) (g := gTup K 2 (gCons (gName 6) (gCons (gName 7) gNil))) (tt := tYes)
          (te := tIf (fun σ H Q => tOp rAndN (tOp rShrN (tFld K (tVar 0) "exits") (tVar 6)) (tC (.int 1)) σ H fun x H' => ∃ i, x = .int i ∧ Q (i != 0) H') (tOp rOrN (tVar 7) (tVar 3)) (tVar 7)) rfl nd (pi_enum (by rfl) N.enumerate (pa_cons (pe_fld (pv 0) rfl) pa_nil)) (blkOk_by (N := ["above", "line", "shift", "feed", "inside", "first", "at", "ways", "later", "follow", "earlier", "exits"]) (sc := defScope s_line_added) (by decide +kernel))
          (fun _ _ _ _ _ => pg_tup rfl (pgs_cons (pg_name (i := 6) nd rfl (Or.inl rfl) (Or.inr rfl)) (pgs_cons (pg_name (i := 7) nd rfl (Or.inl rfl) (Or.inr rfl)) pgs_nil))) (fun _ _ _ _ _ => pts_nil)
          (fun _ _ _ _ _ => pe_ifExp (pt_int (pe_op op_andNat (pe_op op_shrNat (pe_fld (pv 0) rfl) (pv 6)) pe_int)) (pe_op op_orNat (pv 7) (pv 3)) (pv 7))) (po_some pe_int) po_none))
      (pss_cons (ps_set (i := 9) nd rfl (by first | exact .inl rfl | exact .inr rfl) (pe_op op_cat (pe_op op_cat (pe_op op_cat (pe_lst (pa_cons (pv 5) pa_nil)) (pv 8)) (pe_lst (pa_cons (pv 4) pa_nil))) (pe_lc (own := [("ways", 7)]) (g := gName 7) (tt := tYes) rfl nd (pi_list (pe_slice sl_list (pe_fld (pv 1) rfl) (po_some pe_int) po_none)) (blkOk_by (N := ["above", "line", "shift", "feed", "inside", "first", "at", "ways", "later", "follow", "earlier", "exits"]) (sc := defScope s_line_added) (by decide +kernel))
          (fun _ _ _ _ _ => pg_name (i := 7) nd rfl (Or.inl rfl)) (fun _ _ _ _ _ => pts_nil) (fun _ _ _ _ _ => pe_call GR r1 (by rfl) gR kR bR .nil pass0 (pa_cons (pv 7) (pa_cons (pv 2) pa_nil))))))
      (pss_cons (ps_set (i := 10) nd rfl (by first | exact .inl rfl | exact .inr rfl) (pe_ifExp (pt_int (pe_op op_andNat (pe_fld (pv 1) rfl) (pe_glob (v := .int 1) (by rfl) gS ⟨_, rfl⟩))) (pe_fld (pv 0) rfl) pe_int))
      (pss_cons (ps_set (i := 11) nd rfl (by first | exact .inl rfl | exact .inr rfl) (pe_op op_orNat (pe_call GR r1 (by rfl) gR kR bR .nil pass0 (pa_cons (pe_op op_andEven (pe_fld (pv 1) rfl) (pe_un un_inv (pe_glob (v := .int 1) (by rfl) gS ⟨_, rfl⟩))) (pa_cons (pv 2) pa_nil))) (pv 10)))
      (pss_one (ps_ret (pe_make MM GM hr (by rfl) gM bM .nil pass0 (pa_cons (pe_op op_cat (pe_op op_cat (pe_fld (pv 0) rfl) (pe_lst (pa_cons (pe_glob (v := .str feedS) (by rfl) gF ⟨_, rfl⟩) pa_nil))) (pe_fld (pv 1) rfl)) (pa_cons (pv 9) (pa_cons (pv 11) pa_nil)))))))))))))), ?_⟩
    obtain ⟨dxa, ca, fa, da, qa1, qa2, qa3, qa4⟩ := id nA
    obtain ⟨dxl, cl, fl, dl, ql1, ql2, ql3, ql4⟩ := id nL
    obtain ⟨a1, a2, a3, a4, a5⟩ := id okA
    obtain ⟨n1, n2, n3, n4, n5⟩ := id okL
    have lenV : (strsV A1.chars).length = A1.chars.length := List.length_map _
    have wd : ∀ {x k : Nat}, k ≤ 1002 → x < 2 ^ k → x < 2 ^ 2000 := fun {x k} hk h => lt_mono h (by omega)
    have wide : 1 < 2 ^ 4000 := Nat.lt_of_lt_of_le (show 1 < 2 ^ 1 by decide) (Nat.pow_le_pow_right (by decide) (by decide))
    refine seq_go (asg_go ?_)
    refine ⟨_, rfl, a, NC, dxa, _, _, rfl, qa1, T.cl, T.n1, lkC, ca, _, rfl, .inl (SqL.of qa2), _, _, rfl, rfl, ?_⟩
    have esh : (((strsV A1.chars).length : Nat) : Int) + 1 = ((A1.chars.length + 1 : Nat) : Int) := by rw [lenV]; omega
    refine name_go ?_
    dsimp only
    rw [esh]
    generalize hsh : A1.chars.length + 1 = sh
    refine seq_go (asg_go ?_)
    refine ⟨_, rfl, 1, sh, rfl, rfl, wide, by omega, ?_⟩
    generalize hfd : 1 <<< sh = fd
    refine name_go ?_
    dsimp only
    refine seq_go (asg_go ?_)
    have g0L : atI (intsV L.follow) 0 = some (.int (L.follow.getD 0 0 : Nat)) := atI_nat (j := 0) (intsV_get (by omega))
    have g0A : atI (intsV A1.follow) 0 = some (.int (A1.follow.getD 0 0 : Nat)) := atI_nat (j := 0) (intsV_get (by omega))
    refine ⟨_, rfl, l, NC, dxl, _, _, rfl, ql1, T.cl, T.n2, lkF, fl, _, 0, _, rfl, rfl, SqL.of ql3, g0L, _, rfl, L.follow.getD 0 0, sh, rfl, wd (k := L.chars.length + 1) (by omega) (getD_lt n3), by omega, ?_⟩
    generalize hins : ren (L.follow.getD 0 0) sh = ins
    refine name_go ?_
    dsimp only
    refine seq_go (asg_go ?_)
    refine ⟨_, rfl, a, NC, dxa, _, _, rfl, qa1, T.cl, T.n2, lkF, fa, _, 0, _, rfl, rfl, SqL.of qa3, g0A, ?_⟩
    refine te_go (.int ((if A1.exits &&& 1 = 0 then 0 else ins : Nat) : Int)) (fun Q' zq => ?_) ?_
    · refine ⟨_, rfl, a, NC, dxa, _, _, rfl, qa1, T.cl, T.n3, lkE, A1.exits, 1, rfl, rfl, _, rfl, ?_⟩
      by_cases hb : A1.exits &&& 1 = 0
      · rw [if_pos hb] at zq
        rw [hb]
        exact iteF zq
      · rw [if_neg hb] at zq
        have hb1 : (((A1.exits &&& 1 : Nat) : Int) != 0) = true := by
          simp only [bne_iff_ne, ne_eq]
          omega
        refine (if_pos hb1).mpr ?_
        exact ⟨_, rfl, zq⟩
    have efirst : lineFirst A1 L = A1.follow.getD 0 0 ||| (if A1.exits &&& 1 = 0 then 0 else ins) := by
      unfold lineFirst
      rw [hsh, hins]
    refine ⟨_, _, rfl, rfl, ?_⟩
    rw [← efirst]
    refine name_go ?_
    dsimp only
    refine seq_go (asg_go ?_)
    -- the ways so far
    refine ⟨_, rfl, a, NC, dxa, _, _, rfl, qa1, T.cl, T.n2, lkF, fa, _, rfl, SqL.of qa3, fun D hD => ?_⟩
    have lenF : (intsV A1.follow).length = A1.follow.length := intsV_len _
    have sD := same_new (o := .lst []) hD
    have lj : (joinF A1.follow A1.exits fd).length = A1.follow.length := joinF_len _ _ _
    refine lc_it (n := A1.follow.length) (by rw [← lenF]; exact walk_enum) (fun j H' => H' D = some (.lst (intsV ((joinF A1.follow A1.exits fd).take j))) ∧ Same H H') ⟨upd_same, sD⟩ (fun j H' _ h => SqL.of (h.2 _ _ qa3)) ?_ ?_
    · rintro j x H2 H3 hj ⟨e2, s2⟩ ⟨T3, y, z, rfl, hT, rfl, hy, hz⟩
      have ey : y = .int (j : Nat) := (Option.some.inj hy).symm
      have ez : z = .int (A1.follow.getD j 0 : Nat) := by
        have hz2 : (intsV A1.follow)[j]? = some z := hz
        rw [intsV_get hj] at hz2
        exact (Option.some.inj hz2).symm
      subst ey ez
      have sT := same_new (o := .tup [.int (j : Nat), .int (A1.follow.getD j 0 : Nat)]) hT
      refine ⟨T3, _, rfl, SqT.of upd_same, rfl, _, _, rfl, _, _, rfl, rfl, rfl, yes_keep ?_⟩
      refine ⟨_, rfl, a, NC, dxa, _, _, rfl, sT _ _ (s2 _ _ qa1), T.cl, T.n3, lkE, _, rfl, A1.exits, j, rfl, rfl, A1.exits >>> j, 1, rfl, rfl, _, rfl, ?_⟩
      have nx : ∀ v : Nat, v = (joinF A1.follow A1.exits fd).getD j 0 → ∃ ac, upd H2 T3 (.tup [.int (j : Nat), .int (A1.follow.getD j 0 : Nat)]) D = some (.lst ac) ∧ ac.length < sizeLine ∧
          upd (upd H2 T3 (.tup [.int (j : Nat), .int (A1.follow.getD j 0 : Nat)])) D (.lst (ac ++ [.int (v : Nat)])) D = some (.lst (intsV ((joinF A1.follow A1.exits fd).take (j + 1)))) ∧ Same H (upd (upd H2 T3 (.tup [.int (j : Nat), .int (A1.follow.getD j 0 : Nat)])) D (.lst (ac ++ [.int (v : Nat)]))) := fun v ev => by
        refine ⟨_, sT _ _ e2, ?_, ?_, fun b o zb => ?_⟩
        · rw [intsV_len, List.length_take]
          exact small1000 (by omega)
        · rw [upd_same, List.take_add_one, List.getElem?_eq_getElem (by omega), ← intsV_app]
          rw [List.getD_eq_getElem?_getD, List.getElem?_eq_getElem (by omega)] at ev
          rw [ev]
          rfl
        · rw [upd_ne (ne_of_none zb hD)]
          exact sT _ _ (s2 _ _ zb)
      have jv : (joinF A1.follow A1.exits fd).getD j 0 = if (A1.exits >>> j) &&& 1 = 0 then A1.follow.getD j 0 else A1.follow.getD j 0 ||| fd := by
        unfold joinF
        rw [List.getD_eq_getElem?_getD, List.getElem?_map, List.getElem?_range hj]
        rfl
      by_cases hb : (A1.exits >>> j) &&& 1 = 0
      · rw [hb]
        refine iteF ?_
        exact ⟨_, rfl, nx _ (by rw [jv, if_pos hb])⟩
      · have hb1 : (((A1.exits >>> j &&& 1 : Nat) : Int) != 0) = true := by
          simp only [bne_iff_ne, ne_eq]
          omega
        refine (if_pos hb1).mpr ?_
        exact ⟨_, rfl, _, rfl, _, _, rfl, rfl, nx _ (by rw [jv, if_neg hb])⟩
    · rintro H2 ⟨e2, s2⟩
      rw [List.take_of_length_le (by omega)] at e2
      refine ⟨1, rfl, D, _, rfl, SqL.of e2, fun la hla => ?_⟩
      rw [cut_one, intsV_drop]
      have k3 := same_new (o := .lst (intsV ((joinF A1.follow A1.exits fd).drop 1))) hla
      have s3 := s2.trans k3
      refine name_go ?_
      dsimp only
      refine seq_go (asg_go ?_)
      refine ⟨_, rfl, line_small (by show 1 ≤ 16777216; decide), fun u1 hu1 => ?_⟩
      have k4 := same_new (o := .lst [.int (lineFirst A1 L : Nat)]) hu1
      have ldr : (intsV ((joinF A1.follow A1.exits fd).drop 1)).length ≤ 600 := by
        rw [intsV_len, List.length_drop]
        omega
      refine ⟨_, rfl, u1, la, _, _, rfl, rfl, upd_same, k4 _ _ upd_same, line_small (by show 1 + _ ≤ 16777216; omega), fun u2 hu2 => ?_⟩
      have k5 := same_new (o := .lst ([.int (lineFirst A1 L : Nat)] ++ intsV ((joinF A1.follow A1.exits fd).drop 1))) hu2
      refine ⟨_, rfl, line_small (by show 1 ≤ 16777216; decide), fun u3 hu3 => ?_⟩
      have k6 := same_new (o := .lst [.int (ins : Nat)]) hu3
      refine ⟨u2, u3, _, _, rfl, rfl, k6 _ _ upd_same, upd_same, ?_, fun u4 hu4 => ?_⟩
      · rw [List.length_append]
        exact line_small (by show (1 + _) + 1 ≤ 16777216; omega)
      have ea4 : [V.int (lineFirst A1 L : Nat)] ++ intsV ((joinF A1.follow A1.exits fd).drop 1) ++ [V.int (ins : Nat)] = intsV ([lineFirst A1 L] ++ (joinF A1.follow A1.exits fd).drop 1 ++ [ins]) := by
        unfold intsV
        rw [List.map_append, List.map_append]
        rfl
      rw [ea4]
      have k7 := same_new (o := .lst (intsV ([lineFirst A1 L] ++ (joinF A1.follow A1.exits fd).drop 1 ++ [ins]))) hu4
      have s7 := (((s3.trans k4).trans k5).trans k6).trans k7
      generalize hacc : [lineFirst A1 L] ++ (joinF A1.follow A1.exits fd).drop 1 ++ [ins] = acc at k7 s7 ⊢
      have lacc : acc.length ≤ 600 := by
        rw [← hacc]
        simp only [List.length_append, List.length_singleton, List.length_drop, lj]
        omega
      refine ⟨_, rfl, l, NC, dxl, _, _, rfl, s7 _ _ ql1, T.cl, T.n2, lkF, 1, rfl, fl, _, rfl, SqL.of (s7 _ _ ql3), fun sl hsl => ?_⟩
      rw [cut_one, intsV_drop]
      have k8 := same_new (o := .lst (intsV (L.follow.drop 1))) hsl
      have s8 := s7.trans k8
      have e8 := k8 _ _ (upd_same (a := u4) (o := .lst (intsV acc)))
      refine ⟨sl, rfl, ⟨_, SqL.of upd_same⟩, fun D2 hD2 => ?_⟩
      have sD2 := same_new (o := .lst []) hD2
      generalize hG : upd (upd _ u4 (.lst (intsV acc))) sl (.lst (intsV (L.follow.drop 1))) = H8 at s8 e8 hD2 sD2 ⊢
      have esl : H8 sl = some (.lst (intsV (L.follow.drop 1))) := by
        rw [← hG]
        exact upd_same
      have h9 : (L.follow.drop 1).length = L.follow.length - 1 := List.length_drop
      refine lc_it (n := (L.follow.drop 1).length) (by rw [← intsV_len (L.follow.drop 1)]; exact walk_list) (fun j H' => H' D2 = some (.lst (intsV (((L.follow.drop 1).take j).map fun x => ren x sh))) ∧ Same H8 H') ⟨upd_same, sD2⟩ (fun j H' _ h => SqL.of (h.2 _ _ esl)) ?_ ?_
      · rintro j x H3 _ hj ⟨e4, s4⟩ ⟨rfl, hx2⟩
        rw [intsV_get hj] at hx2
        have ex := (Option.some.inj hx2).symm
        subst ex
        refine ⟨rfl, yes_keep ?_⟩
        refine ⟨_, rfl, _, rfl, _, sh, rfl, wd (k := L.chars.length + 1) (by omega) (getD_lt fun x hx => n3 x (List.mem_of_mem_drop hx)), by omega, _, e4, ?_, ?_, fun b o zb => ?_⟩
        · rw [intsV_len, List.length_map, List.length_take]
          exact small1000 (by omega)
        · rw [upd_same, List.take_add_one, List.getElem?_eq_getElem hj, List.map_append, ← intsV_app, List.getD_eq_getElem?_getD, List.getElem?_eq_getElem hj]
          rfl
        · rw [upd_ne (ne_of_none zb hD2)]
          exact s4 _ _ zb
      · rintro H3 ⟨e4, s4⟩
        rw [List.take_of_length_le (Nat.le_refl _)] at e4
        have s9 := s8.trans s4
        refine ⟨u4, D2, _, _, rfl, rfl, s4 _ _ e8, e4, ?_, fun fo hfo => ?_⟩
        · rw [intsV_len, intsV_len, List.length_map]
          exact line_small (by omega)
        rw [intsV_app]
        have ef2 : acc ++ (L.follow.drop 1).map (fun x => ren x sh) = (lineN A1 L).follow := by
          unfold lineN
          rw [hsh, hfd, hins, hacc]
        rw [ef2]
        have k10 := same_new (o := .lst (intsV (lineN A1 L).follow)) hfo
        have s10 := s9.trans k10
        refine name_go ?_
        dsimp only
        refine seq_go (asg_go ?_)
        refine te_go (.int ((if L.exits &&& 1 = 0 then 0 else A1.exits : Nat) : Int)) (fun Q' zq => ?_) ?_
        · refine ⟨_, rfl, l, NC, dxl, _, _, rfl, s10 _ _ ql1, T.cl, T.n3, lkE, L.exits, 1, rfl, rfl, _, rfl, ?_⟩
          by_cases hb : L.exits &&& 1 = 0
          · rw [if_pos hb] at zq
            rw [hb]
            exact iteF zq
          · rw [if_neg hb] at zq
            have hb1 : (((L.exits &&& 1 : Nat) : Int) != 0) = true := by
              simp only [bne_iff_ne, ne_eq]
              omega
            refine (if_pos hb1).mpr ?_
            exact ⟨_, rfl, a, NC, dxa, _, _, rfl, s10 _ _ qa1, T.cl, T.n3, lkE, zq⟩
        refine name_go ?_
        dsimp only
        refine seq_go (asg_go ?_)
        refine ⟨_, rfl, l, NC, dxl, _, _, rfl, s10 _ _ ql1, T.cl, T.n3, lkE, 1, rfl, L.exits, rfl, rfl, _, rfl, L.exits / 2 * 2, sh, rfl, wd (k := L.chars.length + 1) (by omega) (by omega), by omega, _, rfl, _, _, rfl, rfl, ?_⟩
        have eex : ren (L.exits / 2 * 2) sh ||| (if L.exits &&& 1 = 0 then 0 else A1.exits) = (lineN A1 L).exits := by
          unfold lineN
          rw [hsh]
        rw [eex]
        refine name_go ?_
        dsimp only
        refine ret_go ?_
        refine ⟨_, rfl, a, NC, dxa, _, _, rfl, s10 _ _ qa1, T.cl, T.n1, lkC, line_small (by show 1 ≤ 16777216; decide), fun v1 hv1 => ?_⟩
        have k11 := same_new (o := .lst [.str feedS]) hv1
        refine ⟨ca, v1, _, _, rfl, rfl, k11 _ _ (s10 _ _ qa2), upd_same, ?_, fun v2 hv2 => ?_⟩
        · rw [lenV]
          exact line_small (by show A1.chars.length + 1 ≤ 16777216; omega)
        have k12 := same_new (o := .lst (strsV A1.chars ++ [.str feedS])) hv2
        have s12 := (s10.trans k11).trans k12
        refine ⟨_, rfl, l, NC, dxl, _, _, rfl, s12 _ _ ql1, T.cl, T.n1, lkC, v2, cl, _, _, rfl, rfl, upd_same, s12 _ _ ql2, ?_, fun c hc => ?_⟩
        · rw [List.length_append, lenV]
          have : (strsV L.chars).length = L.chars.length := List.length_map _
          exact line_small (by show A1.chars.length + 1 + (strsV L.chars).length ≤ 16777216; omega)
        have ec : strsV A1.chars ++ [V.str feedS] ++ strsV L.chars = strsV (lineN A1 L).chars := by
          unfold strsV lineN
          rw [List.map_append, List.map_append]
          rfl
        rw [ec]
        have k13 := same_new (o := .lst (strsV (lineN A1 L).chars)) hc
        have s13 := s12.trans k13
        refine ⟨_, rfl, _, rfl, ?_⟩
        have efo := (k11.trans (k12.trans k13)) _ _ (upd_same (H := H3) (a := fo) (o := .lst (intsV (lineN A1 L).follow)))
        exact make_net (n := lineN A1 L) (lineN_ok okA okL (by omega)) upd_same efo fun r H' sm hr0 at_ => q r c fo H' (s13.trans sm) (s13.free hr0) (s12.free hc) (s9.free hfo) (at_.of s13)
end
end K14

set_option autoImplicit false
set_option maxErrors 4
namespace K14
open PySem PySem.Spec PyProof.Rows L2 Tl
/-! ### the net of lines -/
def underN : List LNet → LNet
  | [] => chain0
  | n :: r => r.foldl lineN n
def lcs (ns : List LNet) : Nat := (ns.map fun n => n.chars.length + 1).sum
theorem lines_facts : ∀ (ns : List LNet) (acc : LNet), acc.Ok → (∀ n ∈ ns, n.Ok) → acc.chars.length + lcs ns ≤ 1000 → (ns.foldl lineN acc).Ok ∧ (ns.foldl lineN acc).chars.length = acc.chars.length + lcs ns
  | [], acc, h, _, _ => ⟨h, rfl⟩
  | n :: r, acc, h, hn, l => by
    have e : lcs (n :: r) = (n.chars.length + 1) + lcs r := rfl
    have len : (lineN acc n).chars.length = acc.chars.length + (n.chars.length + 1) := by
      unfold lineN
      simp only [List.length_append, List.length_singleton]
      omega
    obtain ⟨a, b⟩ := lines_facts r (lineN acc n) (lineN_ok h (hn n List.mem_cons_self) (by omega)) (fun m hm => hn m (List.mem_cons_of_mem _ hm)) (by omega)
    exact ⟨a, by rw [List.foldl_cons, b, len, e]; omega⟩
theorem lcs_take (ns : List LNet) (j : Nat) : lcs (ns.take j) ≤ lcs ns := by
  have e : lcs ns = lcs (ns.take j) + lcs (ns.drop j) := by
    unfold lcs
    rw [← List.sum_append, ← List.map_append, List.take_append_drop]
  omega
section
variable {P : Program} {w : World} {K : PySem.W.Frag} {mg : Str → Option Value} {base : Heap} {C KC NC FC MC YC OC : Addr} {HB H : Hp}
def spUe (NC : Addr) (HB : Hp) : Sp := fun vs H Q _ => ∃ (l : Addr) (p0 : Addr × LNet) (ps : Prs), vs = [.ref l] ∧ H l = some (.lst (refsP (p0 :: ps))) ∧ (∀ x ∈ p0 :: ps, NetFar NC HB H x.1 x.2 ∧ x.2.Ok) ∧ lcs (netsP (p0 :: ps)) ≤ 500 ∧ Old HB H ∧
  ∀ r H', Same H H' → NetFar NC HB H' r (underN (netsP (p0 :: ps))) → Q (.ref r) H'
set_option maxHeartbeats 20000000 in
theorem ok_ue {f : Addr} {fd : FuncData} (F : FnP K "under_each_other" "under_each_other" s_under_each_other f fd) (C1 : Can P w K mg base CX0 "line_added" ["above", "line"] 4 (spLineA NC)) : FnOk P w K mg base CX0 5 f fd ["nets"] (spUe NC HB) := by
  obtain ⟨f1, fd1, G1, g1, k1, b1⟩ := C1
  have nd := sc_under_each_other.nd
  refine F.ok sc_under_each_other (fun vs H Q E h => ?_) (fun cdv A outer s H vs Q E hr h => ?_)
  · obtain ⟨l, p0, ps, rfl, _⟩ := h
    rfl
  · obtain ⟨l, p0, ps, rfl, hl, far, siz, old, q⟩ := h
    refine ⟨_, PSs.nox (pss_cons (ps_set (i := 1) nd rfl (.inl rfl) (pe_ix (r := rIxL K) ix_list (pv 0) pe_int (fun _ _ => rfl)))
      (pss_cons (ps_for PassesOwn.never rfl (pi_list (pe_slice sl_list (pv 0) (po_some pe_int) po_none)) (pg_name (i := 2) nd rfl (.inl rfl)) (pss_one (ps_set (i := 1) nd rfl (.inl rfl) (pe_call G1 hr (by rfl) g1 k1 b1 .nil pass0 (pa_cons (pv 1) (pa_cons (pv 2) pa_nil))))))
      (pss_one (ps_ret (pv 1))))), ?_⟩
    refine seq_go (asg_go ?_)
    have g0 : atI (refsP (p0 :: ps)) 0 = some (.ref p0.1) := atI_nat (j := 0) rfl
    refine ⟨_, rfl, l, _, 0, _, rfl, rfl, SqL.of hl, g0, ?_⟩
    refine name_go ?_
    dsimp only
    refine seq_go ?_
    refine ⟨_, rfl, 1, rfl, l, _, rfl, SqL.of hl, fun sl hsl => ?_⟩
    have ec : cutV (refsP (p0 :: ps)) (some 1) none = refsP ps := cut_one
    rw [ec]
    have s1 := same_new (o := .lst (refsP ps)) hsl
    have esl := upd_same (H := H) (a := sl) (o := .lst (refsP ps))
    have lr : (refsP ps).length = ps.length := List.length_map _
    refine ⟨sl, rfl, ⟨_, SqL.of esl⟩, ?_⟩
    refine for_list (xs := refsP ps) (fun j σ H' => ∃ (r : Addr) (x2 : Option V), σ = [some (.ref l), some (.ref r), x2] ∧ NetFar NC HB H' r (((netsP ps).take j).foldl lineN p0.2) ∧ Same (upd H sl (.lst (refsP ps))) H') ⟨p0.1, none, rfl, (far p0 List.mem_cons_self).1.same s1, Same.refl _⟩ (fun j σ H' _ h => by
      obtain ⟨_, _, _, _, sm⟩ := h
      exact SqL.of (sm _ _ esl)) ?_ ?_
    · rintro j x σ H1 hx ⟨r, x2, rfl, fr, sm⟩
      have hj : j < ps.length := by
        obtain ⟨z, _⟩ := List.getElem?_eq_some_iff.mp hx
        rw [lr] at z
        exact z
      have ex : x = .ref ps[j].1 := by
        unfold refsP at hx
        rw [List.getElem?_map, List.getElem?_eq_getElem hj] at hx
        exact (Option.some.inj hx).symm
      subst ex
      have mem := List.mem_cons_of_mem p0 (List.getElem_mem hj)
      obtain ⟨fx, okx⟩ := far _ mem
      have sm1 := s1.trans sm
      have nj : (netsP ps)[j]? = some ps[j].2 := by
        unfold netsP
        rw [List.getElem?_map, List.getElem?_eq_getElem hj]
        rfl
      have tk : ((netsP ps).take (j + 1)).foldl lineN p0.2 = lineN (((netsP ps).take j).foldl lineN p0.2) ps[j].2 := fold_take lineN p0.2 (netsP ps) nj
      have e : lcs (netsP (p0 :: ps)) = (p0.2.chars.length + 1) + lcs (netsP ps) := rfl
      have l1 := lcs_take (netsP ps) (j + 1)
      have l2 : lcs ((netsP ps).take (j + 1)) = lcs ((netsP ps).take j) + (ps[j].2.chars.length + 1) := by
        unfold lcs
        rw [List.take_add_one, nj, List.map_append, List.sum_append]
        simp
      have okn : ∀ n ∈ (netsP ps).take j, n.Ok := fun n hn => by
        have hn := List.mem_of_mem_take hn
        obtain ⟨y, hy, rfl⟩ := List.mem_map.mp hn
        exact (far y (List.mem_cons_of_mem _ hy)).2
      obtain ⟨oka, lena⟩ := lines_facts ((netsP ps).take j) p0.2 (far p0 List.mem_cons_self).2 okn (by omega)
      refine name_go ?_
      dsimp only
      refine ⟨_, rfl, _, rfl, r, ps[j].1, _, _, rfl, fr.at, (fx.same sm1).at, oka, okx, by omega, fun r2 c fo H2 s2 hr2 hc hf new => ?_⟩
      refine name_go ?_
      dsimp only
      refine ⟨r2, _, rfl, ?_, sm.trans s2⟩
      rw [tk]
      exact new.far2 (old.same sm1) hr2 hc hf
    · rintro σ H1 ⟨r, x2, rfl, fr, sm⟩
      rw [lr, List.take_of_length_le (by unfold netsP; rw [List.length_map]; exact Nat.le_refl _)] at fr
      exact ⟨_, rfl, q r H1 (s1.trans sm) fr⟩
/-- the net of a form's lines -/
def formN (ls : List (List Itm)) : LNet := underN (ls.map fun ps => chainL (netsR ps))
def spLnet (FC MC YC KC NC : Addr) (HB : Hp) : Sp := fun vs H Q _ => ∃ (R : Addr) (ls : List (List Itm)), vs = [.ref R] ∧ LinI FC MC YC KC NC HB H R ls ∧ ls ≠ [] ∧ ls.length ≤ 10 ∧ (∀ ps ∈ ls, depL ps < 4) ∧ (ls.map sizL).sum ≤ 200 ∧ Old HB H ∧ ∀ r H', Same H H' → NetFar NC HB H' r (formN ls) → Q (.ref r) H'
set_option maxHeartbeats 20000000 in
theorem ok_lnet {f : Addr} {fd : FuncData} (F : FnP K "lines_net" "lines_net" s_lines_net f fd) (C1 : Can P w K mg base CX0 "row_net" ["row"] 12 (spRnet FC MC YC KC NC HB 4)) (C2 : Can P w K mg base CX0 "under_each_other" ["nets"] 5 (spUe NC HB)) : FnOk P w K mg base CX0 13 f fd ["lines"] (spLnet FC MC YC KC NC HB) := by
  obtain ⟨f1, fd1, G1, g1, k1, b1⟩ := C1
  obtain ⟨f2, fd2, G2, g2, k2, b2⟩ := C2
  have nd := sc_lines_net.nd
  refine F.ok sc_lines_net (fun vs H Q E h => ?_) (fun cdv A outer s H vs Q E hr h => ?_)
  · obtain ⟨R, ls, rfl, _⟩ := h
    rfl
  · obtain ⟨R, ls, rfl, ⟨rs, hrow, lrs, hI⟩, ne, l10, deep, siz, old, q⟩ := h
    have r5 := hr.mono (show 5 ≤ 12 by decide)
    refine ⟨_, PSs.nox (pss_one (ps_ret (pe_call G2 r5 (by rfl) g2 k2 b2 .nil pass0 (pa_cons (pe_lc (own := [("line", 1)]) (g := gName 1) (tt := tYes) rfl nd (pi_seq (pv 0)) (blkOk_by (N := ["lines", "line"]) (sc := defScope s_lines_net) (by decide +kernel)) (fun _ _ _ _ _ => pg_name (i := 1) nd rfl (Or.inl rfl)) (fun _ _ _ _ _ => pts_nil) (fun _ _ _ _ _ => (pe_call G1 hr (by rfl) g1 k1 b1 .nil pass0 (pa_cons (pv 1) pa_nil)))) pa_nil)))), ?_⟩
    have lx : (rs.map V.ref).length = ls.length := by rw [List.length_map, lrs]
    have sz : ∀ ps ∈ ls, sizL ps ≤ 200 := fun ps hps => by
      obtain ⟨u, v, e⟩ := List.append_of_mem hps
      rw [e, List.map_append, List.sum_append, List.map_cons, List.sum_cons] at siz
      omega
    have okr : ∀ ps ∈ ls, (chainL (netsR ps)).Ok ∧ (chainL (netsR ps)).chars.length = sizL ps := fun ps hps => by
      obtain ⟨j, hj, e⟩ := List.mem_iff_getElem.mp hps
      have hrj : rs[j]? = some (rs[j]'(by omega)) := List.getElem?_eq_getElem _
      obtain ⟨xs, _, hA, _⟩ := hI j _ ps hrj (by rw [List.getElem?_eq_getElem hj, e])
      have s2 := sz ps hps
      obtain ⟨a1, a2, a3, a4⟩ := netsR_facts ps (ItmsAt.ok ps xs hA) (by omega)
      exact ⟨chainL_ok a1 (by omega), by rw [chainL_chars, a2, a4]⟩
    refine ret_go ?_
    refine (show tLc (iSeq K (tVar 0)) (gName 1) tYes (tCall (spRnet FC MC YC KC NC HB 4) [] E0 (tCons (tVar 1) tNil)) [1] _ H (fun x H1 => spUe NC HB [x] H1 Q E0) from ?_)
    refine lc_seq (K := K) rfl hrow (fun D j H' => ∃ ns : Prs, ns.length = j ∧ netsP ns = (ls.map fun ps => chainL (netsR ps)).take j ∧ H' D = some (.lst (refsP ns)) ∧ Same H H' ∧ ∀ x ∈ ns, NetX NC HB H (upd H D (.lst [])) H' x.1 x.2) (fun D hD => ⟨[], rfl, rfl, upd_same, same_new hD, fun x hx => by cases hx⟩) (fun D j H' p => by
      obtain ⟨_, _, _, _, sm, _⟩ := p
      exact sm) (fun D hD j x H' hj hx p => ?_) fun D hD H' p => ?_
    · obtain ⟨ns, l1, l2, e, sm, far⟩ := p
      obtain ⟨ra, ps, rfl, hp, _, hA⟩ := lin_elt lrs hI hx
      have mem := List.mem_of_getElem? hp
      have s2 := sz ps mem
      have sD : ∀ x, H' x = none → (upd H D (.lst [])) x = none := fun x hx => by
        rw [upd_ne (fun y => by rw [y, e] at hx; cases hx)]
        exact sm.free hx
      have tk : (ls.map fun ps => chainL (netsR ps)).take (j + 1) = (ls.map fun ps => chainL (netsR ps)).take j ++ [chainL (netsR ps)] := by
        rw [List.take_add_one, List.getElem?_map, hp]
        rfl
      refine ⟨rfl, yes_keep ?_⟩
      refine ⟨_, rfl, ra, ps, H, rfl, sm, hA, deep ps mem, by omega, old.same sm, fun r2 H2 s2 x2 => ?_⟩
      refine ⟨_, s2 _ _ e, ?_, ns ++ [(r2, chainL (netsR ps))], ?_, ?_, ?_, fun b o z => ?_, fun y hy => ?_⟩
      · unfold refsP
        rw [List.length_map]
        exact line_small (by rw [lx] at hj; omega)
      · rw [List.length_append, l1]
        rfl
      · unfold netsP at l2 ⊢
        rw [List.map_append, l2, tk]
        rfl
      · rw [upd_same]
        unfold refsP
        rw [List.map_append]
        rfl
      · rw [upd_ne (ne_of_none z hD)]
        exact s2 _ _ (sm _ _ z)
      · rcases List.mem_append.mp hy with hy | hy
        · exact ((far y hy).same s2).put hD upd_same
        · rw [List.mem_singleton.mp hy]
          exact (x2.put hD e).back2 sD
    · obtain ⟨ns, l1, l2, e, sm, far⟩ := p
      rw [lx, List.take_of_length_le (by rw [List.length_map]; exact Nat.le_refl _)] at l2
      cases ns with
      | nil =>
        exfalso
        rw [lx] at l1
        exact ne (List.eq_nil_of_length_eq_zero l1.symm)
      | cons p0 ns =>
        have each : ∀ x ∈ p0 :: ns, ∃ ps ∈ ls, x.2 = chainL (netsR ps) := fun x hx => by
          have z : x.2 ∈ netsP (p0 :: ns) := List.mem_map.mpr ⟨x, hx, rfl⟩
          rw [l2] at z
          obtain ⟨ps, hps, ez⟩ := List.mem_map.mp z
          exact ⟨ps, hps, ez.symm⟩
        refine ⟨D, p0, ns, rfl, e, fun x hx => ⟨(far x hx).far, ?_⟩, ?_, old.same sm, fun r H2 s2 f2 => ?_⟩
        · obtain ⟨ps, hps, ez⟩ := each x hx
          rw [ez]
          exact (okr ps hps).1
        · rw [l2]
          have el : lcs (ls.map fun ps => chainL (netsR ps)) = (ls.map fun ps => sizL ps + 1).sum := by
            unfold lcs
            rw [List.map_map]
            congr 1
            exact List.map_congr_left fun ps hps => by
              show (chainL (netsR ps)).chars.length + 1 = _
              rw [(okr ps hps).2]
          have e2 : ∀ qs : List (List Itm), (qs.map fun ps => sizL ps + 1).sum = (qs.map sizL).sum + qs.length := by
            intro qs
            induction qs with
            | nil => rfl
            | cons x r ih =>
              rw [List.map_cons, List.sum_cons, List.map_cons, List.sum_cons, ih, List.length_cons]
              omega
          rw [el, e2]
          omega
        · rw [l2] at f2
          exact q r H2 (sm.trans s2) f2
end
end K14

set_option autoImplicit false
set_option maxErrors 4
namespace K14
open PySem PySem.Spec PyProof.Rows L2 Tl
/-! ### who holds the places -/
def hV : Option Str → V
  | none => .non
  | some n => .str n
mutual
theorem hldI_len : ∀ i : Itm, (hldI i).length = sizI i
  | .fld n r => List.length_replicate
  | .mrk t => List.length_replicate
  | .grp ps => hldL_len ps
theorem hldL_len : ∀ ps : List Itm, (hldL ps).length = sizL ps
  | [] => rfl
  | i :: r => by
    show (hldI i ++ hldL r).length = sizI i + sizL r
    rw [List.length_append, hldI_len i, hldL_len r]
end
theorem hldL_take {ps : List Itm} {j : Nat} {i : Itm} (h : ps[j]? = some i) : hldL (ps.take (j + 1)) = hldL (ps.take j) ++ hldI i := by
  have app : ∀ as bs : List Itm, hldL (as ++ bs) = hldL as ++ hldL bs := by
    intro as bs
    induction as with
    | nil => rfl
    | cons a as ih =>
      show hldI a ++ hldL (as ++ bs) = (hldI a ++ hldL as) ++ hldL bs
      rw [ih, List.append_assoc]
  rw [List.take_add_one, h, app]
  show _ = _ ++ hldI i
  congr 1
  exact List.append_nil _
theorem sizL_take (ps : List Itm) (j : Nat) : sizL (ps.take j) ≤ sizL ps := by
  have : ∀ (as : List Itm) (j : Nat), sizL (as.take j) ≤ sizL as := by
    intro as
    induction as with
    | nil => intro j; cases j <;> exact Nat.le_refl _
    | cons a as ih =>
      intro j
      cases j with
      | zero => exact Nat.zero_le _
      | succ j => exact Nat.add_le_add_left (ih j) _
  exact this ps j
def hldF : List (List Itm) → List (Option Str)
  | [] => []
  | p :: r => r.foldl (fun a q => a ++ [none] ++ hldL q) (hldL p)
section
variable {P : Program} {w : World} {K : PySem.W.Frag} {mg : Str → Option Value} {base : Heap} {C KC NC FC MC YC OC : Addr} {HB H : Hp}
def spRh (FC MC YC KC NC : Addr) (HB : Hp) (d : Nat) : Sp := fun vs H Q _ => ∃ (r : Addr) (ps : List Itm), vs = [.ref r] ∧ RowI FC MC YC KC NC HB H r ps ∧ depL ps < d ∧ sizL ps ≤ 500 ∧ ∀ l H', Same H H' → H l = none → H' l = some (.lst ((hldL ps).map hV)) → Q (.ref l) H'
set_option maxHeartbeats 20000000 in
theorem ok_rh {f : Addr} {fd : FuncData} (F : FnP K "row_holders" "row_holders" s_row_holders f fd) (T : Town K mg C KC NC FC MC YC OC) (N : Nms mg) (C_item_size : Can P w K mg base CX0 "item_size" ["item"] 1 (spIsz FC MC YC KC NC HB 0)) (g : mg "row_holders" = some (.ref f)) (k : PySem.W.keepIn K (.ref f) = true) (b : Binds K fd ["row"] []) :
    ∀ d, FnOk P w K mg base CX0 (d + 1) f fd ["row"] (spRh FC MC YC KC NC HB d)
  | 0 => ⟨fun vs H Q E h => (by obtain ⟨r, ps, _, _, h, _⟩ := h; omega), fun A outer s H args us vs Q E _ _ _ _ h => (by obtain ⟨r, ps, _, _, h, _⟩ := h; omega)⟩
  | d + 1 => by
    have G := ok_rh F T N C_item_size g k b d
    obtain ⟨f_item_size, fd_item_size, G_item_size, g_item_size, k_item_size, b_item_size⟩ := C_item_size
    have nd := sc_row_holders.nd
    refine F.ok sc_row_holders (fun vs H Q E h => ?_) (fun cdv A outer s H vs Q E hr h => ?_)
    · obtain ⟨r, ps, rfl, _⟩ := h
      rfl
    · obtain ⟨r, ps, rfl, ⟨xs, hrow, hI, hl⟩, hd, hz, q⟩ := h
      have r1 := hr.mono (show 1 ≤ d + 1 by omega)
      refine ⟨_, PSs.nox (pss_cons (ps_set (i := 1) nd rfl (.inl rfl) (pe_lst pa_nil)) (pss_cons (ps_for PassesOwn.never rfl (pi_seq (pv 0)) (pg_name (i := 2) nd rfl (.inl rfl))
        (pss_one (ps_if (pt_val (pe_callB call_isi (by rfl) N.isi (by decide +kernel) (pa_cons (pv 2) (pa_cons (pe_glob (v := .ref YC) rfl T.gY rfl) pa_nil)))) (pss_one (ps_expr (pe_bm PySem.F.plainAttrs_list PySem.F.slot_list_extend PySem.F.type_list_extend mt_extend (pv 1) (pa_cons (pe_call G hr (by rfl) g k b .nil pass0 (pa_cons (pe_fld (pv 2) rfl) pa_nil)) pa_nil))))
          (pss_cons (ps_set (i := 3) nd rfl (.inl rfl) (pe_ifExp (pt_val (pe_callB call_isi (by rfl) N.isi (by decide +kernel) (pa_cons (pv 2) (pa_cons (pe_glob (v := .ref FC) rfl T.gF rfl) pa_nil)))) (pe_fld (pv 2) rfl) pe_non))
          (pss_one (ps_expr (pe_bm PySem.F.plainAttrs_list PySem.F.slot_list_extend PySem.F.type_list_extend mt_extend (pv 1) (pa_cons (pe_op op_rep (pe_lst (pa_cons (pv 3) pa_nil)) (pe_call G_item_size r1 (by rfl) g_item_size k_item_size b_item_size .nil pass0 (pa_cons (pv 2) pa_nil))) pa_nil))))))))
        (pss_one (ps_ret (pv 1))))), ?_⟩
      have lx : (xs.map V.ref).length = ps.length := by rw [List.length_map, hI.length]
      refine ⟨Nat.zero_le _, fun L hL => ?_⟩
      have s0 := same_new (o := .lst []) hL
      refine name_go ?_
      dsimp only
      refine seq_go ?_
      refine for_seq (K := K) (H0 := H) rfl hrow (fun j σ H' => ∃ x2 x3 : Option V, σ = [some (.ref r), some (.ref L), x2, x3] ∧ H' L = some (.lst ((hldL (ps.take j)).map hV)) ∧ Same H H') ⟨none, none, rfl, upd_same, s0⟩ ?_ ?_ ?_
      · rintro j σ' H' ⟨_, _, _, _, sm⟩
        exact sm
      · rintro j x σ H3 hx ⟨x2, x3, rfl, e4, sm⟩
        obtain ⟨i, a, rfl, hi, _, _, hA⟩ := hI.elt hx
        have mem := List.mem_of_getElem? hi
        have hA3 := ItmAt.same sm i a hA
        have tk := hldL_take hi
        have lj : ((hldL (ps.take j)).map hV).length ≤ 500 := by
          rw [List.length_map, hldL_len]
          have := sizL_take ps j
          omega
        have li := sizI_le mem
        have stay : ∀ {H4 : Hp} {o : HO}, Same H3 H4 → Same H (upd H4 L o) := fun {H4 o} s4 c u z => by
          rw [upd_ne (ne_of_none z hL)]
          exact s4 _ _ (sm _ _ z)
        -- a field or a mark
        have plain : ∀ (v : V) (D : Ends), depI i ≤ 0 → (hldI i).map hV = List.replicate (sizI i) v → (∀ x2 x3 H', H' L = some (.lst ((hldL (ps.take (j + 1))).map hV)) → Same H H' → D.nx [some (.ref r), some (.ref L), x2, x3] H') →
            tDrop (tBM K "list" rExtend (tVar 1) (tCons (tOp rRep (tLst (tCons (tVar 3) tNil)) (tCall (spIsz FC MC YC KC NC HB 0) [] E0 (tCons (tVar 2) tNil))) tNil)) D [some (.ref r), some (.ref L), some (.ref a), some v] H3 := fun v D d0 ev nx => by
          refine ⟨_, rfl, .inl ⟨rfl, _, SqL.of e4⟩, _, rfl, line_small (by show 1 ≤ 16777216; decide), fun p1 n1 => ?_⟩
          have s1 := same_new (o := .lst [v]) n1
          refine ⟨_, rfl, i, a, rfl, ItmAt.same s1 _ _ hA3, d0, fun H5 s5 => ?_⟩
          refine ⟨p1, ((sizI i : Nat) : Int), [v], rfl, rfl, s5 _ _ upd_same, by omega, by omega, ?_, fun p2 n2 => ?_⟩
          · rw [Int.toNat_natCast]
            exact line_small (by show 1 * sizI i ≤ 16777216; omega)
          rw [Int.toNat_natCast, rep_flat]
          have s2 := same_new (o := .lst (List.replicate (sizI i) v)) n2
          have s15 := (s1.trans s5).trans s2
          refine ⟨L, p2, _, _, rfl, rfl, s15 _ _ e4, upd_same, ?_, ?_⟩
          · rw [List.length_replicate]
            exact line_small (by omega)
          · refine nx _ _ _ ?_ (stay s15)
            rw [upd_same, tk, List.map_append, ev]
        refine name_go ?_
        dsimp only
        refine ⟨_, rfl, _, _, _, _, isG i, rfl, .own YC, ItmAt.ty T hA3, T.kG i, isG i, rfl, ?_⟩
        cases i with
        | grp qs =>
          obtain ⟨dx, p, zs, h1, h2, h3, h4⟩ := id hA3
          have dq : 1 + depL qs ≤ depL ps := depL_le mem
          have sq : sizL qs ≤ sizL ps := li
          refine iteT ?_
          refine ⟨_, rfl, .inl ⟨rfl, _, SqL.of e4⟩, _, rfl, a, YC, dx, _, _, rfl, h1, T.clY, T.nY, lk_hit, p, qs, rfl, ⟨zs, .inr h2, h3, h4⟩, by omega, by omega, fun l H4 s4 nl el => ?_⟩
          refine ⟨L, l, _, _, rfl, rfl, s4 _ _ e4, el, ?_, _, _, rfl, ?_, stay s4⟩
          · have : ((hldL qs).map hV).length = sizL qs := by rw [List.length_map, hldL_len]
            exact line_small (by omega)
          · rw [upd_same, tk, List.map_append]
            rfl
        | mrk t =>
          refine iteF ?_
          refine seq_go (asg_go ?_)
          refine ⟨_, rfl, _, _, _, _, false, rfl, .own FC, ItmAt.ty T hA3, T.no mM mF (Ne.symm T.ne.1), _, rfl, iteF ?_⟩
          refine name_go ?_
          dsimp only
          exact plain .non _ (Nat.le_refl _) (List.map_replicate) fun x2 x3 H' e s2 => ⟨x2, x3, rfl, e, s2⟩
        | fld n rows =>
          obtain ⟨dx, kk, h1, h2, h3⟩ := id hA3
          refine iteF ?_
          refine seq_go (asg_go ?_)
          refine ⟨_, rfl, _, _, _, _, true, rfl, .own FC, ItmAt.ty T hA3, T.own mF, _, rfl, iteT ?_⟩
          refine ⟨_, rfl, a, FC, dx, _, _, rfl, h1, T.clF, T.nF1, lk_hit, ?_⟩
          refine name_go ?_
          dsimp only
          exact plain (.str n) _ (Nat.le_refl _) (List.map_replicate) fun x2 x3 H' e s2 => ⟨x2, x3, rfl, e, s2⟩
      · rintro σ H3 ⟨x2, x3, rfl, e4, sm⟩
        rw [lx, List.take_of_length_le (Nat.le_refl _)] at e4
        exact ⟨_, rfl, q L H3 sm hL e4⟩
def spLh (FC MC YC KC NC : Addr) (HB : Hp) : Sp := fun vs H Q _ => ∃ (R : Addr) (ls : List (List Itm)) (rs : List Addr), vs = [.ref R] ∧ H R = some (.tup (rs.map V.ref)) ∧ rs.length = ls.length ∧ (∀ (j : Nat) (r : Addr) (ps : List Itm), rs[j]? = some r → ls[j]? = some ps → RowI FC MC YC KC NC HB H r ps) ∧ ls ≠ [] ∧ ls.length ≤ 10 ∧ (∀ ps ∈ ls, depL ps < 4) ∧ (∀ ps ∈ ls, sizL ps ≤ 200) ∧
  ∀ l H', Same H H' → H' l = some (.lst ((hldF ls).map hV)) → Q (.ref l) H'
set_option maxHeartbeats 20000000 in
theorem ok_lh {f : Addr} {fd : FuncData} (F : FnP K "lines_holders" "lines_holders" s_lines_holders f fd) (C1 : Can P w K mg base CX0 "row_holders" ["row"] 5 (spRh FC MC YC KC NC HB 4)) : FnOk P w K mg base CX0 6 f fd ["lines"] (spLh FC MC YC KC NC HB) := by
  obtain ⟨f1, fd1, G1, g1, k1, b1⟩ := C1
  have nd := sc_lines_holders.nd
  refine F.ok sc_lines_holders (fun vs H Q E h => ?_) (fun cdv A outer s H vs Q E hr h => ?_)
  · obtain ⟨R, ls, rs, rfl, _⟩ := h
    rfl
  · obtain ⟨R, ls, rs, rfl, hR, lrs, hI, ne, l10, deep, siz, q⟩ := h
    refine ⟨_, PSs.nox (pss_cons (ps_set (i := 1) nd rfl (.inl rfl) (pe_call G1 hr (by rfl) g1 k1 b1 .nil pass0 (pa_cons (pe_ix (r := rIxT K) ix_tup (pv 0) pe_int (fun _ _ => rfl)) pa_nil)))
      (pss_cons (ps_for PassesOwn.never rfl (pi_tup (pe_slice sl_tup (pv 0) (po_some pe_int) po_none)) (pg_name (i := 2) nd rfl (.inl rfl)) (pss_one (ps_set (i := 1) nd rfl (.inl rfl) (pe_op op_cat (pe_op op_cat (pv 1) (pe_lst (pa_cons pe_non pa_nil))) (pe_call G1 hr (by rfl) g1 k1 b1 .nil pass0 (pa_cons (pv 2) pa_nil))))))
      (pss_one (ps_ret (pv 1))))), ?_⟩
    have lx : (rs.map V.ref).length = ls.length := by rw [List.length_map, lrs]
    cases ls with
    | nil => exact absurd rfl ne
    | cons p0 lr =>
      cases rs with
      | nil => cases lrs
      | cons r0 rr =>
        have lrr : rr.length = lr.length := Nat.succ.inj lrs
        have lr10 : lr.length ≤ 9 := Nat.le_of_succ_le_succ l10
        refine seq_go (asg_go ?_)
        have g0 : atI ((r0 :: rr).map V.ref) 0 = some (.ref r0) := atI_nat (j := 0) rfl
        have h0 := hI 0 r0 p0 rfl rfl
        refine ⟨_, rfl, R, _, 0, _, rfl, rfl, SqT.of hR, g0, r0, p0, rfl, h0, deep p0 List.mem_cons_self, Nat.le_trans (siz p0 List.mem_cons_self) (by decide), fun l H1 s1 nl el => ?_⟩
        refine name_go ?_
        dsimp only
        refine seq_go ?_
        refine ⟨_, rfl, 1, rfl, R, _, rfl, SqT.of (s1 _ _ hR), ?_, fun sl hsl => ?_⟩
        · rintro ⟨z, _⟩
          have z2 : HT.sIx ((r0 :: rr).map V.ref).length 0 (some ((1 : Nat) : Int)) = 0 := z
          rw [HT.sIx_nat, List.length_map, List.length_cons] at z2
          omega
        have ec : cutV ((r0 :: rr).map V.ref) (some 1) none = rr.map V.ref := cut_one
        rw [ec]
        have s2 := same_new (o := .tup (rr.map V.ref)) hsl
        have esl := upd_same (H := H1) (a := sl) (o := .tup (rr.map V.ref))
        have lr2 : (rr.map V.ref).length = lr.length := by rw [List.length_map, lrr]
        refine ⟨sl, rfl, ⟨_, SqT.of esl⟩, ?_⟩
        have total : ∀ j, j ≤ lr.length → ((lr.take j).foldl (fun a q => a ++ [none] ++ hldL q) (hldL p0)).length ≤ 200 + 201 * j := by
          intro j
          induction j with
          | zero =>
            intro _
            rw [List.take_zero]
            show (hldL p0).length ≤ _
            rw [hldL_len]
            exact siz p0 List.mem_cons_self
          | succ j ih =>
            intro hj
            have hq : lr[j]? = some lr[j] := List.getElem?_eq_getElem hj
            rw [fold_take _ _ _ hq]
            simp only [List.length_append, List.length_singleton]
            have h1 := ih (by omega)
            have h2 := siz lr[j] (List.mem_cons_of_mem _ (List.getElem_mem hj))
            rw [hldL_len]
            omega
        refine for_tup (xs := rr.map V.ref) (fun j σ H' => ∃ (l : Addr) (x2 : Option V), σ = [some (.ref R), some (.ref l), x2] ∧ H' l = some (.lst (((lr.take j).foldl (fun a q => a ++ [none] ++ hldL q) (hldL p0)).map hV)) ∧ Same (upd H1 sl (.tup (rr.map V.ref))) H') ⟨l, none, rfl, s2 _ _ el, Same.refl _⟩ (fun j σ H' _ h => by
          obtain ⟨_, _, _, _, sm⟩ := h
          exact SqT.of (sm _ _ esl)) ?_ ?_
        · rintro j x σ H3 hx ⟨l, x2, rfl, e3, sm⟩
          have hj : j < lr.length := by
            obtain ⟨z, _⟩ := List.getElem?_eq_some_iff.mp hx
            rw [lr2] at z
            exact z
          have hjr : j < rr.length := by omega
          have ex : x = .ref rr[j] := by
            rw [List.getElem?_map, List.getElem?_eq_getElem hjr] at hx
            exact (Option.some.inj hx).symm
          subst ex
          have hq : lr[j]? = some lr[j] := List.getElem?_eq_getElem hj
          have hA := hI (j + 1) rr[j] lr[j] (by rw [List.getElem?_cons_succ]; exact List.getElem?_eq_getElem hjr) (by rw [List.getElem?_cons_succ]; exact hq)
          have mem : lr[j] ∈ p0 :: lr := List.mem_cons_of_mem _ (List.getElem_mem hj)
          have s13 := (s1.trans s2).trans sm
          have tot := total j (by omega)
          have sj := siz _ mem
          refine name_go ?_
          dsimp only
          refine ⟨_, rfl, line_small (by show 1 ≤ 16777216; decide), fun b1 hb1 => ?_⟩
          have k1 := same_new (o := .lst [.non]) hb1
          refine ⟨l, b1, _, _, rfl, rfl, k1 _ _ e3, upd_same, line_small (by rw [List.length_map]; show _ + 1 ≤ 16777216; omega), fun b2 hb2 => ?_⟩
          have k2 := same_new (o := .lst (((lr.take j).foldl (fun a q => a ++ [none] ++ hldL q) (hldL p0)).map hV ++ [.non])) hb2
          have s4 := (s13.trans k1).trans k2
          refine ⟨_, rfl, rr[j], lr[j], rfl, hA.same s4, deep _ mem, by omega, fun l2 H5 s5 nl2 el2 => ?_⟩
          refine ⟨b2, l2, _, _, rfl, rfl, s5 _ _ upd_same, el2, ?_, fun b3 hb3 => ?_⟩
          · rw [List.length_append, List.length_map, List.length_map, hldL_len]
            exact line_small (by show _ + 1 + _ ≤ 16777216; omega)
          have k6 := same_new (o := .lst (((lr.take j).foldl (fun a q => a ++ [none] ++ hldL q) (hldL p0)).map hV ++ [.non] ++ (hldL lr[j]).map hV)) hb3
          refine name_go ?_
          dsimp only
          refine ⟨b3, _, rfl, ?_, (((sm.trans k1).trans k2).trans s5).trans k6⟩
          rw [upd_same, fold_take _ _ _ hq, List.map_append, List.map_append]
          rfl
        · rintro σ H3 ⟨l, x2, rfl, e3, sm⟩
          rw [lr2, List.take_of_length_le (Nat.le_refl _)] at e3
          exact ⟨_, rfl, q l H3 ((s1.trans s2).trans sm) e3⟩
end
end K14

set_option autoImplicit false
set_option maxErrors 4
namespace K14
open PySem PySem.Spec PyProof.Rows L2 Tl
/-! ### the owners of the places -/
def ownS (o : Option Str) : Str := o.getD ""
def ownD (os : List (Option Str)) (i : Nat) : SN := (List.range i).foldl (fun d i => addN d (ownS (os.getD i none)) (1 <<< (1 + i))) []
theorem ownD_len (os : List (Option Str)) : ∀ i, (ownD os i).length ≤ i
  | 0 => Nat.le_refl _
  | i + 1 => by
    unfold ownD
    rw [range_fold]
    exact Nat.le_trans (addN_length _ _ _) (Nat.succ_le_succ (ownD_len os i))
theorem ownD_nd (os : List (Option Str)) : ∀ i, ((ownD os i).map (·.1)).Nodup
  | 0 => List.nodup_nil
  | i + 1 => by
    unfold ownD
    rw [range_fold]
    exact putN_nd (ownD_nd os i)
theorem ownD_keys (os : List (Option Str)) : ∀ i, i ≤ os.length → ∀ p ∈ ownD os i, ∃ o ∈ os, p.1 = ownS o
  | 0, _, p, h => by cases h
  | i + 1, hi, p, h => by
    unfold ownD at h
    rw [range_fold] at h
    rcases putN_keys h with e | ⟨x, hx, e⟩
    · refine ⟨os.getD i none, ?_, e⟩
      rw [List.getD_eq_getElem?_getD, List.getElem?_eq_getElem (by omega)]
      exact List.getElem_mem _
    · rw [← e]
      exact ownD_keys os i (by omega) x hx
theorem few_keys {α : Type} [DecidableEq α] : ∀ {R U : List α}, R.Nodup → (∀ x ∈ R, x ∈ U) → R.length ≤ U.length
  | [], U, _, _ => Nat.zero_le _
  | a :: R, U, nd, h => by
    have ha := h a List.mem_cons_self
    obtain ⟨nd1, nd2⟩ := List.nodup_cons.mp nd
    have ih := few_keys (R := R) (U := U.erase a) nd2 (fun x hx => (List.mem_erase_of_ne (fun e => nd1 (by rw [← e]; exact hx))).mpr (h x (List.mem_cons_of_mem _ hx)))
    rw [List.length_erase_of_mem ha] at ih
    have : 0 < U.length := List.length_pos_of_mem ha
    show R.length + 1 ≤ U.length
    omega
theorem valV_mem {D : SN} {s : Str} (h : s ∈ D.map (·.1)) : ∃ n : Nat, valV (kvsV D) (Sum.inr s) = some (.int (n : Nat)) := by
  rw [kvsV_get]
  induction D with
  | nil => cases h
  | cons p r ih =>
    rw [getN_cons]
    by_cases e : p.1 = s
    · rw [if_pos e]
      exact ⟨_, rfl⟩
    · rw [if_neg e]
      rcases List.mem_cons.mp h with z | z
      · exact absurd z.symm e
      · exact ih z
section
variable {P : Program} {w : World} {K : PySem.W.Frag} {mg : Str → Option Value} {base : Heap} {C KC NC FC MC YC OC : Addr}
def spOs : Sp := fun vs H Q _ => ∃ (h : Addr) (os : List (Option Str)) (ns : List Str), vs = [.ref h] ∧ H h = some (.tup (os.map hV)) ∧ os.length ≤ 1000 ∧ (∀ o ∈ os, ∀ n, o = some n → n ∈ ns) ∧ ns.length ≤ 12 ∧ ∀ v H', Same H H' → Q v H'
set_option maxHeartbeats 20000000 in
theorem ok_os {f : Addr} {fd : FuncData} (F : FnP K "owner_sets" "owner_sets" s_owner_sets f fd) (N : Nms mg) : FnOk P w K mg base CX0 1 f fd ["holders"] spOs := by
  have nd := sc_owner_sets.nd
  refine F.ok sc_owner_sets (fun vs H Q E h => ?_) (fun cdv A outer s H vs Q E hr h => ?_)
  · obtain ⟨h, os, ns, rfl, _⟩ := h
    rfl
  · obtain ⟨h, os, ns, rfl, hh, l1000, known, l12, q⟩ := h
    have hu : (A.deeper (envOfC "owner_sets" (defScope s_owner_sets) s.heap.objs.size f cdv)).units + 1 < cLine := by have := hr.un; omega
    refine ⟨_, PSs.nox (pss_cons (ps_set (i := 1) nd rfl (.inr rfl) pe_dnewK)
      (pss_cons (ps_for PassesOwn.never rfl (pi_enumT (by rfl) N.enumerate (pa_cons (pv 0) pa_nil)) (pg_tup rfl (pgs_cons (pg_name (i := 2) nd rfl (.inl rfl) (.inr rfl)) (pgs_cons (pg_name (i := 3) nd rfl (.inl rfl) (.inr rfl)) pgs_nil)))
        (pss_cons (ps_set (i := 4) nd rfl (.inl rfl) (pe_ifExp (pt_cmpR op_isN (pv 3) pe_non (nomark _)) pe_str (pv 3)))
        (pss_one (ps_dput hu (pv 1) (pv 4) (pe_op op_orNat (pe_dget2 hu (pv 1) (pv 4) pe_int ⟨rfl, rfl, rfl, rfl⟩) (pe_op op_shlNat pe_int (pe_op op_addNat pe_int (pv 2)))) rfl))))
      (pss_one (ps_ret (pe_callTy call_tuple_of (by rfl) N.tuple (by decide +kernel) (pa_cons (pe_lc (own := [("owner", 4)]) (g := gName 4) (tt := tYes) rfl nd (pi_list (pe_callB (r := rSortedS K) cr_sortedS (by rfl) N.sorted (by decide +kernel) (pa_cons (pe_callTy (call_listD rfl) (by rfl) N.list (by decide +kernel) (pa_cons (pv 1) pa_nil)) pa_nil))) (blkOk_by (N := ["holders", "sets", "place", "name", "owner"]) (sc := defScope s_owner_sets) (by decide +kernel)) (fun _ _ _ _ _ => pg_name (i := 4) nd rfl (Or.inl rfl)) (fun _ _ _ _ _ => pts_nil)
        (fun _ _ _ _ _ => pe_tup (pa_cons (pv 4) (pa_cons (pe_dget hu (pv 1) (pv 4) (fun _ _ => rfl)) pa_nil)))) pa_nil)))))), ?_⟩
    intro d hd
    have sd := same_new (o := .dK []) hd
    have wide : 1 < 2 ^ 4000 := Nat.lt_of_lt_of_le (show 1 < 2 ^ 1 by decide) (Nat.pow_le_pow_right (by decide) (by decide))
    have gv : ∀ (D : SN) (s : Str), (valV (kvsV D) (Sum.inr s)).getD (.int 0) = .int (((getN D s).getD 0 : Nat) : Int) := fun D s => by
      rw [kvsV_get]
      cases getN D s <;> rfl
    have lenV : (os.map hV).length = os.length := List.length_map _
    have lenK : ∀ D : SN, (kvsV D).length = D.length := fun D => List.length_map _
    refine name_go ?_
    dsimp only
    refine seq_go ?_
    refine ⟨_, rfl, h, _, rfl, SqT.of (sd _ _ hh), ?_⟩
    refine for_it (n := (os.map hV).length) (walk_enumT (K := K) (xs := os.map hV)) (fun i σ H' => ∃ (x2 x3 x4 : Option V), σ = [some (.ref h), some (.ref d), x2, x3, x4] ∧ H' d = some (.dK (kvsV (ownD os i))) ∧ Same H H') ⟨none, none, none, rfl, upd_same, sd⟩ (fun i σ H' _ h => by
      obtain ⟨_, _, _, _, _, sm⟩ := h
      exact SqT.of (K := K) (sm _ _ hh)) ?_ ?_
    · rintro i x σ H2 H3 hi ⟨x2, x3, x4, rfl, ed, sm⟩ ⟨T3, y, z, rfl, hT, rfl, hy, hz⟩
      have hi2 : i < os.length := by omega
      have ey : y = .int (i : Nat) := (Option.some.inj hy).symm
      have ez : z = hV (os.getD i none) := by
        have hz : (os.map hV)[i]? = some z := hz
        rw [List.getElem?_map, List.getElem?_eq_getElem hi2] at hz
        rw [List.getD_eq_getElem?_getD, List.getElem?_eq_getElem hi2]
        exact (Option.some.inj hz).symm
      subst ey ez
      have sT := same_new (o := .tup [.int (i : Nat), hV (os.getD i none)]) hT
      have e1 := sT _ _ ed
      refine ⟨T3, _, rfl, SqT.of upd_same, rfl, _, _, rfl, _, _, rfl, rfl, ?_⟩
      generalize ho : os.getD i none = o at hT sT e1
      have step : ownD os (i + 1) = addN (ownD os i) (ownS o) (1 <<< (1 + i)) := by
        unfold ownD
        rw [range_fold, ho]
      cases o with
      | none =>
        refine ⟨_, rfl, rfl, _, rfl, iteT ?_⟩
        refine name_go ?_
        dsimp only
        refine ⟨_, rfl, d, rfl, .inl ⟨_, .inl e1⟩, _, rfl, _, DGet.k (k := Sum.inr "") e1, ?_⟩
        rw [gv]
        refine ⟨_, rfl, 1, i, rfl, rfl, 1, 1 + i, rfl, rfl, wide, by omega, _, _, rfl, rfl, ?_⟩
        refine ⟨_, rfl, _, rfl, d, _, rfl, DPut.k (k := Sum.inr "") e1 ?_, ?_⟩
        · rw [lenK]
          exact small1000 (by have := ownD_len os i; omega)
        rw [kvsV_put]
        refine ⟨_, _, _, rfl, ?_, fun b o zb => ?_⟩
        · rw [upd_same, step]
          rfl
        · rw [upd_ne (ne_of_none zb hd)]
          exact sT _ _ (sm _ _ zb)
      | some m =>
        refine ⟨_, rfl, rfl, _, rfl, iteF ?_⟩
        refine ⟨_, rfl, ?_⟩
        refine name_go ?_
        dsimp only
        refine ⟨_, rfl, d, rfl, .inl ⟨_, .inl e1⟩, _, rfl, _, DGet.k (k := Sum.inr m) e1, ?_⟩
        rw [gv]
        refine ⟨_, rfl, 1, i, rfl, rfl, 1, 1 + i, rfl, rfl, wide, by omega, _, _, rfl, rfl, ?_⟩
        refine ⟨_, rfl, _, rfl, d, _, rfl, DPut.k (k := Sum.inr m) e1 ?_, ?_⟩
        · rw [lenK]
          exact small1000 (by have := ownD_len os i; omega)
        rw [kvsV_put]
        refine ⟨_, _, _, rfl, ?_, fun b o zb => ?_⟩
        · rw [upd_same, step]
          rfl
        · rw [upd_ne (ne_of_none zb hd)]
          exact sT _ _ (sm _ _ zb)
    · rintro σ H2 ⟨x2, x3, x4, rfl, ed, sm⟩
      rw [lenV] at ed
      have nk := ownD_nd os os.length
      have lk : ((ownD os os.length).map (·.1)).length ≤ (("" : Str) :: ns).length := few_keys nk fun x hx => by
        obtain ⟨p, hp, rfl⟩ := List.mem_map.mp hx
        obtain ⟨o, ho, e⟩ := ownD_keys os _ (Nat.le_refl _) p hp
        rw [e]
        cases o with
        | none => exact List.mem_cons_self
        | some n => exact List.mem_cons_of_mem _ (known _ ho n rfl)
      generalize ownD os os.length = D at ed nk lk
      have lk13 : (D.map (·.1)).length ≤ 13 := Nat.le_trans lk (by show ns.length + 1 ≤ 13; omega)
      refine ⟨_, rfl, d, _, rfl, .inl ed, fun L1 n1 => ?_⟩
      have ekeys : ((kvsV D).map fun kv : Key × V => kV kv.1) = (D.map (·.1)).map V.str := by
        unfold kvsV
        rw [List.map_map, List.map_map]
        rfl
      rw [ekeys]
      have s1 := same_new (o := .lst ((D.map (·.1)).map V.str)) n1
      refine ⟨L1, D.map (·.1), rfl, SqL.of upd_same, by omega, fun ys L2 pm _ n2 => ?_⟩
      have ly : ys.length ≤ 13 := by rw [pm.length_eq]; exact lk13
      have s2 := same_new (o := .lst (ys.map V.str)) n2
      have s12 := s1.trans s2
      refine ⟨L2, rfl, ⟨_, SqL.of upd_same⟩, fun D2 hD => ?_⟩
      refine lc_it (n := (ys.map V.str).length) (walk_list (K := K) (xs := ys.map V.str)) (fun j H' => ∃ acc, H' D2 = some (.lst acc) ∧ acc.length = j ∧ Same (upd (upd H2 L1 (.lst ((D.map (·.1)).map V.str))) L2 (.lst (ys.map V.str))) H') ⟨[], upd_same, rfl, same_new hD⟩ (fun j H' _ h => by
        obtain ⟨_, _, _, s3⟩ := h
        exact SqL.of (K := K) (s3 _ _ upd_same)) ?_ ?_
      · rintro j y _ H3 hj ⟨acc, e4, la, s3⟩ ⟨rfl, hy⟩
        have hj2 : j < ys.length := by rw [List.length_map] at hj; exact hj
        have ey : y = .str ys[j] := by
          have hy : (ys.map V.str)[j]? = some y := hy
          rw [List.getElem?_map, List.getElem?_eq_getElem hj2] at hy
          exact (Option.some.inj hy).symm
        subst ey
        obtain ⟨n, hn⟩ := valV_mem (D := D) (s := ys[j]) (pm.mem_iff.mp (List.getElem_mem _))
        refine ⟨rfl, yes_keep ?_⟩
        have ed3 := s3 _ _ (s12 _ _ ed)
        have dg := DGet.k (k := Sum.inr ys[j]) ed3
        rw [hn] at dg
        refine ⟨_, rfl, _, rfl, _, rfl, d, _, rfl, dg, line_small (by show 2 ≤ 16777216; decide), fun t nt => ?_⟩
        refine ⟨acc, ?_, small1000 (by omega), _, upd_same, by rw [List.length_append, la]; rfl, fun b o z => ?_⟩
        · rw [upd_ne (ne_of_none e4 nt)]
          exact e4
        · rw [upd_ne (ne_of_none z hD), upd_ne (ne_of_none (s3 _ _ z) nt)]
          exact s3 _ _ z
      · rintro H3 ⟨acc, e4, la, s3⟩
        refine ⟨D2, _, rfl, .inl ⟨SqL.of e4, fun t nt => ?_⟩⟩
        exact q _ _ (((sm.trans s12).trans s3).trans (same_new nt))
end
end K14

set_option autoImplicit false
set_option maxErrors 4
namespace K14
open PySem PySem.Spec PyProof.Rows L2 Tl
/-! ### what joining keeps -/
theorem addJ_cases (l : List Itm) (i : Itm) : addJ l i = l ++ [i] ∨ ∃ r a b, l = r ++ [.mrk a] ∧ i = .mrk b ∧ addJ l i = r ++ [.mrk (a ++ b)] := by
  rcases List.eq_nil_or_concat l with rfl | ⟨m, x, rfl⟩
  · exact .inl (addJ_nil i)
  · rw [List.concat_eq_append]
    cases x with
    | mrk a =>
      cases i with
      | mrk b => exact .inr ⟨m, a, b, rfl, rfl, addJ_mm m a b⟩
      | fld n r => exact .inl (addJ_noM _ _ rfl)
      | grp ps => exact .inl (addJ_noM _ _ rfl)
    | fld n r => exact .inl (addJ_lastN _ _ _ rfl)
    | grp ps => exact .inl (addJ_lastN _ _ _ rfl)
theorem join_hom {β : Type} (φ : List Itm → List β) (h0 : φ [] = []) (app : ∀ a b, φ (a ++ b) = φ a ++ φ b) (mm : ∀ a b, φ [.mrk (a ++ b)] = φ [.mrk a] ++ φ [.mrk b]) (ps : List Itm) : φ (joinJ ps) = φ ps := by
  have one : ∀ l i, φ (addJ l i) = φ l ++ φ [i] := fun l i => by
    rcases addJ_cases l i with e | ⟨r, a, b, rfl, rfl, e⟩
    · rw [e, app]
    · rw [e, app, app, mm, List.append_assoc]
  have go : ∀ (qs acc : List Itm), φ (qs.foldl addJ acc) = φ acc ++ φ qs := by
    intro qs
    induction qs with
    | nil => intro acc; rw [h0, List.append_nil]; rfl
    | cons q qs ih =>
      intro acc
      show φ (qs.foldl addJ (addJ acc q)) = _
      rw [ih, one, List.append_assoc, ← app]
      rfl
  show φ (ps.foldl addJ []) = φ ps
  rw [go, h0, List.nil_append]
theorem hldL_app (as bs : List Itm) : hldL (as ++ bs) = hldL as ++ hldL bs := by
  induction as with
  | nil => rfl
  | cons a as ih =>
    show hldI a ++ hldL (as ++ bs) = (hldI a ++ hldL as) ++ hldL bs
    rw [ih, List.append_assoc]
theorem chrL_app (as bs : List Itm) : chrL (as ++ bs) = chrL as ++ chrL bs := by
  induction as with
  | nil => rfl
  | cons a as ih =>
    show chrI a ++ chrL (as ++ bs) = (chrI a ++ chrL as) ++ chrL bs
    rw [ih, List.append_assoc]
theorem join_hld (ps : List Itm) : hldL (joinJ ps) = hldL ps := join_hom hldL rfl hldL_app (fun a b => by
  show List.replicate (a.cps ++ b.cps).size none ++ [] = (List.replicate a.cps.size none ++ []) ++ (List.replicate b.cps.size none ++ [])
  rw [Array.size_append, ← List.replicate_append_replicate]
  simp) ps
theorem join_chr (ps : List Itm) : chrL (joinJ ps) = chrL ps := join_hom chrL rfl chrL_app (fun a b => by
  show ((a.cps ++ b.cps).toList.map fun c => (⟨#[c]⟩ : Str)) ++ [] = ((a.cps.toList.map fun c => (⟨#[c]⟩ : Str)) ++ []) ++ ((b.cps.toList.map fun c => (⟨#[c]⟩ : Str)) ++ [])
  rw [Array.toList_append, List.map_append]
  simp) ps
theorem join_fds (ps : List Itm) : fdsL (joinJ ps) = fdsL ps := join_hom fdsL rfl fdsL_app (fun a b => rfl) ps
theorem join_siz (ps : List Itm) : sizL (joinJ ps) = sizL ps := by rw [← hldL_len, join_hld, hldL_len]
theorem join_mem {ps : List Itm} {i : Itm} (h : i ∈ joinJ ps) : isM i = true ∨ i ∈ ps := by
  have one : ∀ (l : List Itm) (i j : Itm), j ∈ addJ l i → isM j = true ∨ j ∈ l ∨ j = i := fun l i j h => by
    rcases addJ_cases l i with e | ⟨r, a, b, rfl, rfl, e⟩
    · rw [e] at h
      rcases List.mem_append.mp h with z | z
      · exact .inr (.inl z)
      · exact .inr (.inr (List.mem_singleton.mp z))
    · rw [e] at h
      rcases List.mem_append.mp h with z | z
      · exact .inr (.inl (List.mem_append_left _ z))
      · rw [List.mem_singleton.mp z]
        exact .inl rfl
  have go : ∀ (qs acc : List Itm), i ∈ qs.foldl addJ acc → isM i = true ∨ i ∈ acc ∨ i ∈ qs := by
    intro qs
    induction qs with
    | nil => intro acc h; exact .inr (.inl h)
    | cons q qs ih =>
      intro acc h
      rcases ih _ h with z | z | z
      · exact .inl z
      · rcases one _ _ _ z with y | y | y
        · exact .inl y
        · exact .inr (.inl y)
        · rw [y]
          exact .inr (.inr List.mem_cons_self)
      · exact .inr (.inr (List.mem_cons_of_mem _ z))
  rcases go ps [] h with z | z | z
  · exact .inl z
  · cases z
  · exact .inr z
theorem depL_lt {ps : List Itm} {d : Nat} (h : ∀ i ∈ ps, depI i ≤ d) : depL ps ≤ d := by
  induction ps with
  | nil => exact Nat.zero_le _
  | cons a r ih => exact Nat.max_le.mpr ⟨h a List.mem_cons_self, ih fun i hi => h i (List.mem_cons_of_mem _ hi)⟩
theorem join_dep (ps : List Itm) : depL (joinJ ps) ≤ depL ps := depL_lt fun i hi => by
  rcases join_mem hi with z | z
  · cases i with
    | mrk t => exact Nat.zero_le _
    | fld n r => cases z
    | grp qs => cases z
  · exact depL_le z
theorem addJ_ne (l : List Itm) (i : Itm) : addJ l i ≠ [] := by
  rcases addJ_cases l i with e | ⟨r, a, b, rfl, rfl, e⟩
  · rw [e]; simp
  · rw [e]; simp
theorem join_ne {ps : List Itm} (h : ps ≠ []) : joinJ ps ≠ [] := by
  have go : ∀ (qs acc : List Itm), acc ≠ [] → qs.foldl addJ acc ≠ [] := by
    intro qs
    induction qs with
    | nil => intro acc h; exact h
    | cons q qs ih => intro acc _; exact ih _ (addJ_ne _ _)
  cases ps with
  | nil => exact absurd rfl h
  | cons a r => exact go r _ (addJ_ne _ _)
theorem join_len (ps : List Itm) : (joinJ ps).length ≤ ps.length := by
  have z := (joinJ_siz ps ps.length).2
  rw [List.take_of_length_le (Nat.le_refl _)] at z
  exact z
theorem joinJ_snoc (ps : List Itm) (i : Itm) : joinJ (ps ++ [i]) = addJ (joinJ ps) i := by
  unfold joinJ
  rw [List.foldl_append]
  rfl
theorem addJ_any {r : List Itm} {a : Str} (c : Str) (h : addJ r (.mrk a) = r ++ [.mrk a]) : addJ r (.mrk c) = r ++ [.mrk c] := by
  rcases addJ_cases r (.mrk c) with e | ⟨r', d, b, rfl, eb, e⟩
  · exact e
  · rw [addJ_mm] at h
    have z := congrArg List.length h
    simp at z
theorem join_fix : ∀ ps : List Itm, joinJ (joinJ ps) = joinJ ps := by
  have one : ∀ (acc : List Itm) (i : Itm), joinJ acc = acc → joinJ (addJ acc i) = addJ acc i := fun acc i h => by
    rcases addJ_cases acc i with e | ⟨r, a, b, rfl, rfl, e⟩
    · rw [e, joinJ_snoc, h, e]
    · rw [e, joinJ_snoc]
      rw [joinJ_snoc] at h
      have l1 := join_len r
      rcases addJ_cases (joinJ r) (.mrk a) with e2 | ⟨r', a', b', e3, e4, e2⟩
      · rw [e2] at h
        have e5 : joinJ r = r := List.append_cancel_right h
        rw [e5] at e2 ⊢
        exact addJ_any _ e2
      · rw [e2] at h
        have z := congrArg List.length h
        rw [e3] at l1
        simp at z l1
        omega
  have go : ∀ (qs acc : List Itm), joinJ acc = acc → joinJ (qs.foldl addJ acc) = qs.foldl addJ acc := by
    intro qs
    induction qs with
    | nil => intro acc h; exact h
    | cons q qs ih => intro acc h; exact ih _ (one _ _ h)
  exact fun ps => go ps [] rfl
/-! the names of the holders -/
mutual
theorem hldI_nm : ∀ (i : Itm) (n : Str), some n ∈ hldI i → n ∈ (fdsI i).map (·.1)
  | .fld m r, n, h => by
    have e := List.eq_of_mem_replicate h
    rw [Option.some.inj e]
    exact List.mem_singleton.mpr rfl
  | .mrk t, n, h => by
    have e := List.eq_of_mem_replicate h
    cases e
  | .grp ps, n, h => hldL_nm ps n h
theorem hldL_nm : ∀ (ps : List Itm) (n : Str), some n ∈ hldL ps → n ∈ (fdsL ps).map (·.1)
  | [], n, h => by cases h
  | i :: r, n, h => by
    show n ∈ (fdsI i ++ fdsL r).map (·.1)
    rw [List.map_append]
    rcases List.mem_append.mp h with z | z
    · exact List.mem_append_left _ (hldI_nm i n z)
    · exact List.mem_append_right _ (hldL_nm r n z)
end
theorem hldF_nm : ∀ (ls : List (List Itm)) (n : Str), some n ∈ hldF ls → n ∈ nmsL ls := by
  intro ls n h
  cases ls with
  | nil => cases h
  | cons p r =>
    have go : ∀ (r : List (List Itm)) (acc : List (Option Str)), some n ∈ r.foldl (fun a q => a ++ [none] ++ hldL q) acc → some n ∈ acc ∨ n ∈ nmsL r := by
      intro r
      induction r with
      | nil => intro acc h; exact .inl h
      | cons q r ih =>
        intro acc h
        rcases ih _ h with z | z
        · rcases List.mem_append.mp z with y | y
          · rcases List.mem_append.mp y with x | x
            · exact .inl x
            · cases List.mem_singleton.mp x
          · exact .inr (List.mem_flatMap.mpr ⟨q, List.mem_cons_self, hldL_nm q n y⟩)
        · obtain ⟨q', hq, hn⟩ := List.mem_flatMap.mp z
          exact .inr (List.mem_flatMap.mpr ⟨q', List.mem_cons_of_mem _ hq, hn⟩)
    rcases go r _ h with z | z
    · exact List.mem_flatMap.mpr ⟨p, List.mem_cons_self, hldL_nm p n z⟩
    · obtain ⟨q', hq, hn⟩ := List.mem_flatMap.mp z
      exact List.mem_flatMap.mpr ⟨q', List.mem_cons_of_mem _ hq, hn⟩
theorem hldF_len (ls : List (List Itm)) : (hldF ls).length ≤ ls.length - 1 + (ls.map sizL).sum := by
  cases ls with
  | nil => exact Nat.zero_le _
  | cons p r =>
    have go : ∀ (r : List (List Itm)) (acc : List (Option Str)), (r.foldl (fun a q => a ++ [none] ++ hldL q) acc).length = acc.length + r.length + (r.map sizL).sum := by
      intro r
      induction r with
      | nil => intro acc; rfl
      | cons q r ih =>
        intro acc
        show (r.foldl _ (acc ++ [none] ++ hldL q)).length = _
        rw [ih]
        simp only [List.length_append, List.length_cons, List.length_nil, List.map_cons, List.sum_cons, hldL_len]
        omega
    show (r.foldl _ (hldL p)).length ≤ _
    rw [go, hldL_len]
    simp only [List.length_cons, List.map_cons, List.sum_cons]
    omega
/-! the places of a form -/
def plL (ps : List Itm) : List (Option Str × Str) := (hldL ps).zip (chrL ps)
def plF : List (List Itm) → List (Option Str × Str)
  | [] => []
  | p :: r => r.foldl (fun a q => a ++ [(none, feedS)] ++ plL q) (plL p)
theorem form_pl {ls : List (List Itm)} (ok : ∀ ps ∈ ls, okL ps) (siz : ∀ ps ∈ ls, sizL ps ≤ 500) : (hldF ls).length = (formN ls).chars.length ∧ (hldF ls).zip (formN ls).chars = plF ls := by
  have one : ∀ ps ∈ ls, (chainL (netsR ps)).chars = chrL ps ∧ (hldL ps).length = (chrL ps).length := fun ps h => by
    obtain ⟨_, e, _, l⟩ := netsR_facts ps (ok ps h) (siz ps h)
    exact ⟨by rw [chainL_chars, e], by rw [hldL_len, l]⟩
  cases ls with
  | nil => exact ⟨rfl, rfl⟩
  | cons p r =>
    obtain ⟨e0, l0⟩ := one p List.mem_cons_self
    have go : ∀ (r : List (List Itm)) (a : List (Option Str)) (n : LNet) (z : List (Option Str × Str)), (∀ ps ∈ r, (chainL (netsR ps)).chars = chrL ps ∧ (hldL ps).length = (chrL ps).length) → a.length = n.chars.length → a.zip n.chars = z →
        (r.foldl (fun a q => a ++ [none] ++ hldL q) a).length = ((r.map fun ps => chainL (netsR ps)).foldl lineN n).chars.length ∧
        (r.foldl (fun a q => a ++ [none] ++ hldL q) a).zip ((r.map fun ps => chainL (netsR ps)).foldl lineN n).chars = r.foldl (fun a q => a ++ [(none, feedS)] ++ plL q) z := by
      intro r
      induction r with
      | nil => intro a n z _ l e; exact ⟨l, e⟩
      | cons q r ih =>
        intro a n z h l e
        obtain ⟨e1, l1⟩ := h q List.mem_cons_self
        have ec : (lineN n (chainL (netsR q))).chars = n.chars ++ [feedS] ++ chrL q := by
          rw [← e1]
          rfl
        refine ih _ (lineN n (chainL (netsR q))) _ (fun ps hp => h ps (List.mem_cons_of_mem _ hp)) ?_ ?_
        · rw [ec]
          simp only [List.length_append, List.length_singleton, l, l1]
        · rw [ec, List.zip_append (by simp [l]), List.zip_append l, e]
          rfl
    exact go r _ _ _ (fun ps hp => one ps (List.mem_cons_of_mem _ hp)) (by rw [e0]; exact l0) (by rw [e0]; rfl)
theorem join_pl (ps : List Itm) : plL (joinJ ps) = plL ps := by
  unfold plL
  rw [join_hld, join_chr]
theorem join_plF : ∀ ls : List (List Itm), plF (ls.map joinJ) = plF ls := by
  intro ls
  cases ls with
  | nil => rfl
  | cons p r =>
    show (r.map joinJ).foldl _ (plL (joinJ p)) = _
    rw [List.foldl_map, join_pl]
    simp only [join_pl]
    rfl
theorem nms_join (ls : List (List Itm)) : nmsL (ls.map joinJ) = nmsL ls := by
  unfold nmsL nmsP
  rw [List.flatMap_map]
  congr 1
  funext ps
  rw [join_fds]
theorem LinesOk.join {ls : List (List Itm)} (h : LinesOk ls) : LinesOk (ls.map joinJ) := by
  refine ⟨by rw [List.length_map]; exact h.lo, by rw [List.length_map]; exact h.hi, fun ps hp => ?_, fun ps hp => ?_, by rw [nms_join]; exact h.nd, by rw [nms_join]; exact h.few, ?_⟩
  · obtain ⟨q, hq, rfl⟩ := List.mem_map.mp hp
    exact join_ne (h.ne q hq)
  · obtain ⟨q, hq, rfl⟩ := List.mem_map.mp hp
    exact Nat.lt_of_le_of_lt (join_dep q) (h.deep q hq)
  · rw [List.length_map, List.map_map, show (sizL ∘ joinJ) = sizL from funext join_siz]
    exact h.siz
end K14

set_option autoImplicit false
set_option maxErrors 4
namespace K14
open PySem PySem.Spec PyProof.Rows L2 Tl
/-! ### Form(lines) -/
/-- fields of a form, as far as they are set -/
def FF (fs : List (Str × V)) : Prop := fs = [] ∨ ∃ (v : V) (r : List (Str × V)), fs = (("lines" : Str), v) :: r
/-- an object that is no form and no list of objects -/
def NotF (o : HO) : Prop := (∀ A dx fs, o = .ins A dx fs → ¬ FF fs) ∧ ∀ acc : List Addr, o ≠ .lst (acc.map V.ref)
theorem notF_ins {A dx : Addr} {k : Str} {v : V} {r : List (Str × V)} (h : k ≠ "lines") : NotF (.ins A dx ((k, v) :: r)) := ⟨fun A' dx' fs e z => by
  injection e with e1 e2 e3
  subst e3
  rcases z with z | ⟨v', r', z⟩
  · cases z
  · injection z with z1 z2
    injection z1 with z3 z4
    exact h z3, fun acc e => by cases e⟩
theorem notF_strs {xs : List Str} (h : xs ≠ []) : NotF (.lst (strsV xs)) := ⟨fun _ _ _ e => (by cases e), fun acc e => by
  injection e with e
  cases xs with
  | nil => exact h rfl
  | cons a r =>
    cases acc with
    | nil => cases e
    | cons b q =>
      injection e with e1 e2
      cases e1⟩
theorem notF_ints {xs : List Nat} (h : xs ≠ []) : NotF (.lst (intsV xs)) := ⟨fun _ _ _ e => (by cases e), fun acc e => by
  injection e with e
  cases xs with
  | nil => exact h rfl
  | cons a r =>
    cases acc with
    | nil => cases e
    | cons b q =>
      injection e with e1 e2
      cases e1⟩
theorem notF_tup {xs : List V} : NotF (.tup xs) := ⟨fun _ _ _ e => (by cases e), fun _ e => by cases e⟩
theorem notF_dK {xs : List (Key × V)} : NotF (.dK xs) := ⟨fun _ _ _ e => (by cases e), fun _ e => by cases e⟩
/-- all that is no form stands as it stood -/
def Stays (H H' : Hp) : Prop := ∀ b o, H b = some o → NotF o → H' b = some o
theorem Stays.trans {H H1 H2 : Hp} (h : Stays H H1) (h2 : Stays H1 H2) : Stays H H2 := fun b o e n => h2 b o (h b o e n) n
theorem stays_of {H H' : Hp} (s : Same H H') : Stays H H' := fun b o e _ => s b o e
theorem stays_put {H : Hp} {p A dx : Addr} {fs : List (Str × V)} {u : HO} (hp : H p = some (.ins A dx fs)) (f : FF fs) : Stays H (upd H p u) := fun b o e n => by
  rw [upd_ne (fun y => by rw [y, hp] at e; exact n.1 A dx fs (Option.some.inj e).symm f)]
  exact e
theorem stays_lst {H : Hp} {p : Addr} {acc : List Addr} {u : HO} (hp : H p = some (.lst (acc.map V.ref))) : Stays H (upd H p u) := fun b o e n => by
  rw [upd_ne (fun y => by rw [y, hp] at e; exact n.2 acc (Option.some.inj e).symm)]
  exact e
theorem But.stays {H H' : Hp} {p A dx : Addr} {fs : List (Str × V)} (b : But p H H') (hp : H p = some (.ins A dx fs)) (f : FF fs) : Stays H H' := fun x o e n =>
  b x o e fun y => by rw [y, hp] at e; exact n.1 A dx fs (Option.some.inj e).symm f
section
variable {FC MC YC KC NC OC : Addr} {HB H H' : Hp}
theorem NetFar.stays {r : Addr} {n : LNet} (h : NetFar NC HB H r n) (s : Stays H H') (ok : n.Ok) (ne : n.chars ≠ []) : NetFar NC HB H' r n := by
  obtain ⟨dx, c, f, d, hn, n1, n2, n3, n4⟩ := h
  exact ⟨dx, c, f, d, hn, s _ _ n1 (notF_ins (by decide)), s _ _ n2 (notF_strs ne), s _ _ n3 (notF_ints (fun e => by have := ok.1; rw [e] at this; cases this)), s _ _ n4 notF_dK⟩
/-- a net is no form -/
theorem NetFar.putF {r p A dx : Addr} {fs : List (Str × V)} {u : HO} {n : LNet} (h : NetFar NC HB H r n) (hp : H p = some (.ins A dx fs)) (f : FF fs) : NetFar NC HB (upd H p u) r n := by
  obtain ⟨dx, c, fo, d, hn, n1, n2, n3, n4⟩ := h
  refine ⟨dx, c, fo, d, hn, stays_put hp f _ _ n1 (notF_ins (by decide)), ?_, ?_, stays_put hp f _ _ n4 notF_dK⟩
  · rw [upd_ne (fun y => by rw [y, hp] at n2; cases n2)]
    exact n2
  · rw [upd_ne (fun y => by rw [y, hp] at n3; cases n3)]
    exact n3
theorem KindN.stays {k : Addr} {rows : List RowL} (h : KindN KC NC HB H k rows) (s : Stays H H') (ok : (kindN rows).Ok ∧ (kindN rows).chars ≠ []) : KindN KC NC HB H' k rows := by
  obtain ⟨dk, t, n, rs, h1, h2, h3, h4, h5⟩ := h
  exact ⟨dk, t, n, rs, s _ _ h1 (notF_ins (by decide)), s _ _ h2 notF_tup, h3, h4.tups (fun b xs e => s _ _ e notF_tup), h5.stays s ok.1 ok.2⟩
mutual
theorem ItmAt.stays (s : Stays H H') : ∀ (i : Itm) (a : Addr), ItmAt FC MC YC KC NC HB H i a → ItmAt FC MC YC KC NC HB H' i a
  | .fld n rows, a, h => by
    obtain ⟨dx, k, h1, h2, h3⟩ := h
    exact ⟨dx, k, s _ _ h1 (notF_ins (by decide)), h2.stays s h3, h3⟩
  | .mrk t, a, h => by
    obtain ⟨dx, h1, h2⟩ := h
    exact ⟨dx, s _ _ h1 (notF_ins (by decide)), h2⟩
  | .grp ps, a, h => by
    obtain ⟨dx, q, xs, h1, h2, h3, h4⟩ := h
    exact ⟨dx, q, xs, s _ _ h1 (notF_ins (by decide)), s _ _ h2 notF_tup, ItmsAt.stays s ps xs h3, h4⟩
theorem ItmsAt.stays (s : Stays H H') : ∀ (ps : List Itm) (xs : List Addr), ItmsAt FC MC YC KC NC HB H ps xs → ItmsAt FC MC YC KC NC HB H' ps xs
  | [], xs, h => h
  | i :: r, xs, h => by
    obtain ⟨a, as, e, h1, h2⟩ := h
    exact ⟨a, as, e, ItmAt.stays s i a h1, ItmsAt.stays s r as h2⟩
end
/-- a tuple of items; a tuple of such tuples -/
def TupI (FC MC YC KC NC : Addr) (HB H : Hp) (a : Addr) (ps : List Itm) : Prop := ∃ xs : List Addr, H a = some (.tup (xs.map V.ref)) ∧ ItmsAt FC MC YC KC NC HB H ps xs ∧ ps.length ≤ 1000
theorem TupI.row {a : Addr} {ps : List Itm} (h : TupI FC MC YC KC NC HB H a ps) : RowI FC MC YC KC NC HB H a ps := by
  obtain ⟨xs, h1, h2, h3⟩ := h
  exact ⟨xs, .inr h1, h2, h3⟩
theorem TupI.stays {a : Addr} {ps : List Itm} (h : TupI FC MC YC KC NC HB H a ps) (s : Stays H H') : TupI FC MC YC KC NC HB H' a ps := by
  obtain ⟨xs, h1, h2, h3⟩ := h
  exact ⟨xs, s _ _ h1 notF_tup, ItmsAt.stays s _ _ h2, h3⟩
def TinI (FC MC YC KC NC : Addr) (HB H : Hp) (R : Addr) (ls : List (List Itm)) : Prop := ∃ rs : List Addr, H R = some (.tup (rs.map V.ref)) ∧ rs.length = ls.length ∧ ∀ (j : Nat) (r : Addr) (ps : List Itm), rs[j]? = some r → ls[j]? = some ps → TupI FC MC YC KC NC HB H r ps
theorem TinI.stays {a : Addr} {ls : List (List Itm)} (h : TinI FC MC YC KC NC HB H a ls) (s : Stays H H') : TinI FC MC YC KC NC HB H' a ls := by
  obtain ⟨rs, h1, h2, h3⟩ := h
  exact ⟨rs, s _ _ h1 notF_tup, h2, fun j r ps e1 e2 => (h3 j r ps e1 e2).stays s⟩
theorem TinI.lin {a : Addr} {ls : List (List Itm)} (h : TinI FC MC YC KC NC HB H a ls) : LinI FC MC YC KC NC HB H a ls := by
  obtain ⟨rs, h1, h2, h3⟩ := h
  exact ⟨rs, .inr h1, h2, fun j r ps e1 e2 => (h3 j r ps e1 e2).row⟩
theorem TinI.ok {a : Addr} {ls : List (List Itm)} (h : TinI FC MC YC KC NC HB H a ls) : ∀ ps ∈ ls, okL ps := fun ps hp => by
  obtain ⟨rs, h1, h2, h3⟩ := h
  obtain ⟨j, hj, e⟩ := List.mem_iff_getElem.mp hp
  obtain ⟨xs, _, h4, _⟩ := h3 j rs[j] ps (List.getElem?_eq_getElem (by omega)) (by rw [List.getElem?_eq_getElem hj, e])
  exact ItmsAt.ok _ _ h4
theorem Old.put {p : Addr} {o u : HO} (h : Old HB H) (hp : H p = some o) : Old HB (upd H p u) := fun x hx => by
  by_cases e : x = p
  · rw [e, upd_same] at hx
    cases hx
  · rw [upd_ne e] at hx
    exact h x hx
/-- the fields of all lines -/
def fdsF (ls : List (List Itm)) : List (Str × List RowL) := ls.flatMap fdsL
theorem fdsF_take {ls : List (List Itm)} {j : Nat} {ps : List Itm} (h : ls[j]? = some ps) : fdsF (ls.take (j + 1)) = fdsF (ls.take j) ++ fdsL ps := by
  unfold fdsF
  rw [List.take_add_one, h, List.flatMap_append]
  show _ ++ [ps].flatMap fdsL = _
  rw [List.flatMap_cons, List.flatMap_nil, List.append_nil]
theorem fdsF_upto (ls : List (List Itm)) (j : Nat) : (fdsF (ls.take j)).length ≤ (fdsF ls).length := by
  have : fdsF ls = fdsF (ls.take j) ++ fdsF (ls.drop j) := by
    unfold fdsF
    rw [← List.flatMap_append, List.take_append_drop]
  rw [this, List.length_append]
  omega
theorem nms_len (ls : List (List Itm)) : (nmsL ls).length = (fdsF ls).length := by
  unfold nmsL fdsF nmsP
  induction ls with
  | nil => rfl
  | cons a r ih =>
    rw [List.flatMap_cons, List.flatMap_cons, List.length_append, List.length_append, List.length_map, ih]
/-- a form of these lines -/
def FormAt (FC MC YC KC NC OC : Addr) (HB H : Hp) (p : Addr) (ls : List (List Itm)) : Prop := ∃ (dx u f n h : Addr) (ov : V) (ys : List Addr), H p = some (.ins OC dx [("lines", .ref u), ("fields", .ref f), ("net", .ref n), ("holders", .ref h), ("owner_sets", ov)]) ∧
  TinI FC MC YC KC NC HB H u ls ∧ H f = some (.tup (ys.map V.ref)) ∧ ItmsAt FC MC YC KC NC HB H ((fdsF ls).map fdI) ys ∧ NetFar NC HB H n (formN ls) ∧ H h = some (.tup ((hldF ls).map hV)) ∧ LinesOk ls
theorem FormAt.same {p : Addr} {ls : List (List Itm)} (h : FormAt FC MC YC KC NC OC HB H p ls) (s : Same H H') : FormAt FC MC YC KC NC OC HB H' p ls := by
  obtain ⟨dx, u, f, n, hh, ov, ys, h1, h2, h3, h4, h5, h6, h7⟩ := h
  exact ⟨dx, u, f, n, hh, ov, ys, s _ _ h1, h2.stays (stays_of s), s _ _ h3, ItmsAt.same s _ _ h4, h5.same s, s _ _ h6, h7⟩
end
section
variable {P : Program} {w : World} {K : PySem.W.Frag} {mg : Str → Option Value} {base : Heap} {C KC NC FC MC YC OC : Addr} {HB : Hp}
def spOinit (FC MC YC KC NC OC : Addr) (HB : Hp) : Sp := fun vs H Q _ => ∃ (p dx R : Addr) (ls : List (List Itm)), vs = [.ref p, .ref R] ∧ H p = some (.ins OC dx []) ∧ LinI FC MC YC KC NC HB H R ls ∧ LinesOk ls ∧ Old HB H ∧ ∀ H', But p H H' → FormAt FC MC YC KC NC OC HB H' p (ls.map joinJ) → Q .non H'
end
end K14

set_option autoImplicit false
set_option maxErrors 4
namespace K14
open PySem PySem.Spec PyProof.Rows L2 Tl
section
variable {P : Program} {w : World} {K : PySem.W.Frag} {mg : Str → Option Value} {base : Heap} {C KC NC FC MC YC OC : Addr} {HB : Hp}
theorem But.updF {p : Addr} {H H' : Hp} {o : HO} (b : But p H H') : But p H (upd H' p o) := fun x u e n => by
  rw [upd_ne n]
  exact b x u e n
theorem But.transF {p : Addr} {H H' H2 : Hp} (b : But p H H') (s : Same H' H2) : But p H H2 := fun x u e n => s _ _ (b x u e n)
theorem ff1 {v : V} {r : List (Str × V)} : FF ((("lines" : Str), v) :: r) := .inr ⟨v, r, rfl⟩
set_option maxHeartbeats 40000000 in
theorem ok_o_init {f : Addr} {fd : FuncData} (F : FnP K "__init__" "Form.__init__" s_Form_init_ f fd) (T : Town K mg C KC NC FC MC YC OC) (N : Nms mg) (C_check_lines : Can P w K mg base CX0 "check_lines" ["lines"] 10 (spCheck FC MC YC KC NC HB)) (C_joined : Can P w K mg base CX0 "joined" ["row"] 4 (spJoined FC MC YC KC NC HB)) (C_fields_in : Can P w K mg base CX0 "fields_in" ["row"] 4 (spFin FC MC YC KC NC HB 4)) (C_lines_net : Can P w K mg base CX0 "lines_net" ["lines"] 13 (spLnet FC MC YC KC NC HB)) (C_lines_holders : Can P w K mg base CX0 "lines_holders" ["lines"] 6 (spLh FC MC YC KC NC HB)) (C_owner_sets : Can P w K mg base CX0 "owner_sets" ["holders"] 1 spOs) : FnOk P w K mg base CX0 14 f fd ["self", "lines"] (spOinit FC MC YC KC NC OC HB) := by
  obtain ⟨f_check_lines, fd_check_lines, G_check_lines, g_check_lines, k_check_lines, b_check_lines⟩ := C_check_lines
  obtain ⟨f_joined, fd_joined, G_joined, g_joined, k_joined, b_joined⟩ := C_joined
  obtain ⟨f_fields_in, fd_fields_in, G_fields_in, g_fields_in, k_fields_in, b_fields_in⟩ := C_fields_in
  obtain ⟨f_lines_net, fd_lines_net, G_lines_net, g_lines_net, k_lines_net, b_lines_net⟩ := C_lines_net
  obtain ⟨f_lines_holders, fd_lines_holders, G_lines_holders, g_lines_holders, k_lines_holders, b_lines_holders⟩ := C_lines_holders
  obtain ⟨f_owner_sets, fd_owner_sets, G_owner_sets, g_owner_sets, k_owner_sets, b_owner_sets⟩ := C_owner_sets
  have nd := sc_Form_init_.nd
  refine F.ok sc_Form_init_ (fun vs H Q E h => ?_) (fun cdv A outer s H vs Q E hr h => ?_)
  · obtain ⟨p, dx, R, ls, rfl, _⟩ := h
    rfl
  · obtain ⟨p, dx, R, ls, rfl, hp, hLin, ok, old, q⟩ := h
    refine ⟨_, PSs.nox (pss_cons (ps_expr (pe_call G_check_lines (hr.mono (by omega)) (by rfl) g_check_lines k_check_lines b_check_lines .nil pass0 (pa_cons (pv 1) pa_nil)))
      (pss_cons (ps_fld (pv 0) (pe_callTy call_tuple_of (by rfl) N.tuple (by decide +kernel) (pa_cons (pe_lc (own := [("line", 2)]) (g := gName 2) (tt := tYes) rfl nd (pi_seq (pv 1)) (blkOk_by (N := ["self", "lines", "line", "field"]) (sc := defScope s_Form_init_) (by decide +kernel)) (fun _ _ _ _ _ => pg_name (i := 2) nd rfl (Or.inl rfl)) (fun _ _ _ _ _ => pts_nil) (fun _ _ _ _ _ => (pe_call G_joined (hr.mono (by omega)) (by rfl) g_joined k_joined b_joined .nil pass0 (pa_cons (pv 2) pa_nil)))) pa_nil)) rfl)
      (pss_cons (ps_fld (pv 0) (pe_callTy call_tuple_of (by rfl) N.tuple (by decide +kernel) (pa_cons (pe_lc2 (own := [("line", 2), ("field", 3)]) (vs1 := [3]) (g := gName 2) (tt := tYes) (wi1 := iList K (tCall (spFin FC MC YC KC NC HB 4) [] E0 (tCons (tVar 2) tNil))) (g1 := gName 3) (tt1 := tYes) rfl nd (pi_tup (pe_fld (pv 0) rfl)) (blkOk_by (N := ["self", "lines", "line", "field"]) (sc := defScope s_Form_init_) (by decide +kernel)) (by decide) (fun _ _ _ _ _ => pg_name (i := 2) nd rfl (Or.inl rfl)) (fun _ _ _ _ _ => pts_nil) (fun _ _ _ _ _ => pi_list (pe_call G_fields_in (hr.mono (by omega)) (by rfl) g_fields_in k_fields_in b_fields_in .nil pass0 (pa_cons (pv 2) pa_nil))) (fun _ _ _ _ _ => pg_name (i := 3) nd rfl (Or.inl rfl)) (fun _ _ _ _ _ => pts_nil) (fun _ _ _ _ _ => pv 3)) pa_nil)) rfl)
      (pss_cons (ps_fld (pv 0) (pe_call G_lines_net hr (by rfl) g_lines_net k_lines_net b_lines_net .nil pass0 (pa_cons (pe_fld (pv 0) rfl) pa_nil)) rfl)
      (pss_cons (ps_fld (pv 0) (pe_callTy call_tuple_of (by rfl) N.tuple (by decide +kernel) (pa_cons (pe_call G_lines_holders (hr.mono (by omega)) (by rfl) g_lines_holders k_lines_holders b_lines_holders .nil pass0 (pa_cons (pe_fld (pv 0) rfl) pa_nil)) pa_nil)) rfl)
      (pss_one (ps_fld (pv 0) (pe_call G_owner_sets (hr.mono (by omega)) (by rfl) g_owner_sets k_owner_sets b_owner_sets .nil pass0 (pa_cons (pe_fld (pv 0) rfl) pa_nil)) rfl))))))), ?_⟩
    have okJ := ok.join
    refine ⟨_, rfl, R, ls, rfl, hLin, ok, fun H1 s1 => ?_⟩
    dsimp only
    -- lines
    refine seq_go ?_
    refine cb_one ?_
    have hLin1 := hLin.same s1
    obtain ⟨rs, hrow, lrs, hI⟩ := id hLin1
    have lx : (rs.map V.ref).length = ls.length := by rw [List.length_map, lrs]
    refine lc_seq (K := K) rfl hrow (fun D j H' => ∃ acc : List Addr, H' D = some (.lst (acc.map V.ref)) ∧ acc.length = j ∧ Same H1 H' ∧ ∀ (i : Nat) (r : Addr) (ps : List Itm), acc[i]? = some r → ls[i]? = some ps → TupI FC MC YC KC NC HB H' r (joinJ ps))
      (fun D hD => ⟨[], upd_same, rfl, sm_new hD, fun i r ps e => by cases e⟩) (fun D j H' p => p.choose_spec.2.2.1) ?_ ?_
    · rintro D hD j x H3 hj hx ⟨acc, e4, la, sm, hT⟩
      obtain ⟨r, ps, rfl, hps, _, hA⟩ := lin_elt lrs hI hx
      have mem := List.mem_of_getElem? hps
      have siz : sizL ps ≤ 200 := by
        have := ok.siz
        have z : sizL ps ≤ (ls.map sizL).sum := sum_mem (List.mem_map.mpr ⟨ps, mem, rfl⟩)
        omega
      refine ⟨rfl, yes_keep ?_⟩
      refine ⟨_, rfl, r, ps, rfl, hA.same sm, siz, fun t xs H4 s4 nt et hX => ?_⟩
      have e5 := s4 _ _ e4
      have st : Stays H4 (upd H4 D (.lst (acc.map V.ref ++ [V.ref t]))) := stays_lst e5
      refine ⟨acc.map V.ref, e5, ?_, acc ++ [t], ?_, by rw [List.length_append, la]; rfl, fun b o z => ?_, ?_⟩
      · rw [List.length_map]
        have := ok.hi
        exact small1000 (by omega)
      · rw [upd_same, List.map_append]
        rfl
      · rw [upd_ne (ne_of_none z hD)]
        exact s4 _ _ (sm _ _ z)
      · intro i r' ps' er ep
        rcases Nat.lt_or_ge i acc.length with lt | ge
        · rw [List.getElem?_append_left lt] at er
          exact ((hT i r' ps' er ep).stays (stays_of s4)).stays st
        · have ei : i = acc.length := by
            obtain ⟨z, _⟩ := List.getElem?_eq_some_iff.mp er
            rw [List.length_append, List.length_singleton] at z
            omega
          subst ei
          rw [List.getElem?_append_right (Nat.le_refl _), Nat.sub_self] at er
          rw [la, hps] at ep
          cases er
          cases ep
          obtain ⟨ys0, _, _, hl⟩ := hA
          exact ⟨xs, by rw [upd_ne (ne_of_none e4 nt).symm]; exact et, ItmsAt.stays st _ _ hX, Nat.le_trans (join_len _) hl⟩
    rintro D hD H3 ⟨acc, e4, la, sm, hT⟩
    have lacc : acc.length = ls.length := by rw [la, lx]
    refine ⟨D, _, rfl, .inl ⟨SqL.of e4, fun u nu => ?_⟩⟩
    have su := same_new (o := .tup (acc.map V.ref)) nu
    have sA := (s1.trans sm).trans su
    have uA : (L2.upd H3 u (.tup (acc.map V.ref))) u = some (.tup (acc.map V.ref)) := upd_same
    have hTA : TinI FC MC YC KC NC HB (L2.upd H3 u (.tup (acc.map V.ref))) u (ls.map joinJ) := ⟨acc, uA, by rw [List.length_map, lacc], fun i r ps er ep => by
      rw [List.getElem?_map] at ep
      obtain ⟨ps0, e0, rfl⟩ := Option.map_eq_some_iff.mp ep
      exact (hT i r ps0 er e0).stays (stays_of su)⟩
    have oldA := old.same sA
    generalize L2.upd H3 u (.tup (acc.map V.ref)) = HA at sA uA hTA oldA ⊢
    generalize hJ : ls.map joinJ = js at okJ hTA q
    have pA := sA _ _ hp
    have bA : But p H HA := fun x o e _ => sA _ _ e
    refine ⟨_, rfl, p, OC, dx, _, rfl, pA, T.clO, T.nO1, (by show 0 < 1000; decide), ?_⟩
    -- fields
    have stB : Stays HA (L2.upd HA p (.ins OC dx (putF "lines" (.ref u) []))) := stays_put pA (.inl rfl)
    have bB : But p H (L2.upd HA p (.ins OC dx (putF "lines" (.ref u) []))) := bA.updF
    have pB : (L2.upd HA p (.ins OC dx (putF "lines" (.ref u) []))) p = some (.ins OC dx [("lines", .ref u)]) := upd_same
    have oldB := oldA.put (u := .ins OC dx (putF "lines" (.ref u) [])) pA
    have hTB := hTA.stays stB
    show _
    generalize L2.upd HA p (.ins OC dx (putF "lines" (.ref u) [])) = HC at bB pB oldB hTB ⊢
    obtain ⟨qs, uB, lqs, hIB⟩ := id hTB
    have lq : (qs.map V.ref).length = js.length := by rw [List.length_map, lqs]
    have few : (fdsF js).length ≤ 12 := by rw [← nms_len]; exact okJ.few
    refine ⟨_, rfl, p, OC, dx, _, _, rfl, pB, T.clO, T.nO1, lk_hit, u, rfl, ⟨_, SqT.of uB⟩, fun D2 hD2 => ?_⟩
    refine out_it (n := (qs.map V.ref).length) (walk_tup (K := K) (xs := qs.map V.ref)) (fun i H' => ∃ ys : List Addr, H' D2 = some (.lst (ys.map V.ref)) ∧ ItmsAt FC MC YC KC NC HB HC ((fdsF (js.take i)).map fdI) ys ∧ Same HC H') ⟨[], upd_same, rfl, same_new hD2⟩ (fun i H' _ h => SqT.of (K := K) (h.choose_spec.2.2 _ _ uB)) ?_ ?_
    · rintro j y _ H4 hj ⟨ys, e5, hF, sm4⟩ ⟨rfl, hy⟩
      have hy : (qs.map V.ref)[j]? = some y := hy
      have hjq : j < qs.length := by rw [List.length_map] at hj; exact hj
      have hjj : j < js.length := by omega
      have ey : y = .ref qs[j] := by
        rw [List.getElem?_map, List.getElem?_eq_getElem hjq] at hy
        exact (Option.some.inj hy).symm
      subst ey
      have hps : js[j]? = some js[j] := List.getElem?_eq_getElem hjj
      have mem : js[j] ∈ js := List.getElem_mem _
      have hA := hIB j qs[j] js[j] (List.getElem?_eq_getElem hjq) hps
      have tk := fdsF_take hps
      have le : (fdsF (js.take (j + 1))).length ≤ 12 := Nat.le_trans (fdsF_upto _ _) few
      rw [tk, List.length_append] at le
      refine ⟨rfl, yes_keep ?_⟩
      refine ⟨_, rfl, qs[j], js[j], HC, rfl, sm4, hA.row, okJ.deep _ mem, by omega, fun l zs H5 s5 nl el hZ => ?_⟩
      have lz := hZ.length
      rw [List.length_map] at lz
      have lys := hF.length
      rw [List.length_map] at lys
      refine ⟨l, rfl, ⟨_, SqL.of el⟩, ?_⟩
      have nlD : D2 ≠ l := ne_of_none e5 nl
      refine in_it (n := (zs.map V.ref).length) (walk_list (K := K) (xs := zs.map V.ref)) (fun k H' => H' D2 = some (.lst (ys.map V.ref ++ (zs.map V.ref).take k)) ∧ Same HC H' ∧ H' l = some (.lst (zs.map V.ref))) ⟨by rw [List.take_zero, List.append_nil]; exact s5 _ _ e5, sm4.trans s5, el⟩ (fun j H' _ h => SqL.of (K := K) h.2.2) ?_ ?_
      · rintro k y _ H6 hk ⟨e6, s6, el6⟩ ⟨rfl, hy⟩
        have hy : (zs.map V.ref)[k]? = some y := hy
        refine ⟨rfl, yes_keep ?_⟩
        refine ⟨_, rfl, _, e6, ?_, ?_, fun b o z => ?_, ?_⟩
        · rw [List.length_append, List.length_map, List.length_take, List.length_map]
          exact small1000 (by omega)
        · rw [upd_same, List.take_add_one, hy, List.append_assoc]
          rfl
        · rw [upd_ne (ne_of_none z hD2)]
          exact s6 _ _ z
        · rw [upd_ne (Ne.symm nlD)]
          exact el6
      · rintro H6 ⟨e6, s6, _⟩
        rw [List.take_of_length_le (Nat.le_refl _), ← List.map_append] at e6
        refine ⟨ys ++ zs, e6, ?_, s6⟩
        rw [tk, List.map_append]
        exact hF.app hZ
    rintro H4 ⟨ys, e5, hF, sm4⟩
    rw [lq, List.take_of_length_le (Nat.le_refl _)] at hF
    refine ⟨D2, _, rfl, .inl ⟨SqL.of e5, fun u2 nu2 => ?_⟩⟩
    have s4u := sm4.trans (same_new (o := .tup (ys.map V.ref)) nu2)
    have bC0 := bB.transF s4u
    have pC0 := s4u _ _ pB
    have hTC := hTB.stays (stays_of s4u)
    have hFC := ItmsAt.same s4u _ _ hF
    have oldC := oldB.same s4u
    have u2C : (L2.upd H4 u2 (.tup (ys.map V.ref))) u2 = some (.tup (ys.map V.ref)) := upd_same
    generalize L2.upd H4 u2 (.tup (ys.map V.ref)) = HD at bC0 pC0 hTC hFC oldC u2C ⊢
    refine ⟨_, rfl, p, OC, dx, _, rfl, pC0, T.clO, T.nO2, (by show 1 < 1000; decide), ?_⟩
    -- net
    have stD : Stays HD (L2.upd HD p (.ins OC dx (putF "fields" (.ref u2) [("lines", .ref u)]))) := stays_put pC0 ff1
    have bD : But p H (L2.upd HD p (.ins OC dx (putF "fields" (.ref u2) [("lines", .ref u)]))) := bC0.updF
    have pD : (L2.upd HD p (.ins OC dx (putF "fields" (.ref u2) [("lines", .ref u)]))) p = some (.ins OC dx [("lines", .ref u), ("fields", .ref u2)]) := upd_same
    have oldD := oldC.put (u := .ins OC dx (putF "fields" (.ref u2) [("lines", .ref u)])) pC0
    have hTD := hTC.stays stD
    have hFD := ItmsAt.stays stD _ _ hFC
    have u2D := stD _ _ u2C notF_tup
    show _
    generalize L2.upd HD p (.ins OC dx (putF "fields" (.ref u2) [("lines", .ref u)])) = HE at bD pD oldD hTD hFD u2D ⊢
    have siz0 : (js.map sizL).sum ≤ 200 := by have := okJ.siz; omega
    have ne0 : js ≠ [] := fun e => by have := okJ.lo; rw [e] at this; cases this
    refine ⟨_, rfl, p, OC, dx, _, _, rfl, pD, T.clO, T.nO1, lk_hit, u, js, rfl, hTD.lin, ne0, okJ.hi, okJ.deep, siz0, oldD, fun nv HG sG hN => ?_⟩
    have bE0 := bD.transF sG
    have pE0 := sG _ _ pD
    have hTG := hTD.stays (stays_of sG)
    have hFG := ItmsAt.same sG _ _ hFD
    have u2G := sG _ _ u2D
    refine ⟨_, rfl, p, OC, dx, _, rfl, pE0, T.clO, T.nO3, (by show 2 < 1000; decide), ?_⟩
    -- holders
    have stG : Stays HG (L2.upd HG p (.ins OC dx (putF "net" (.ref nv) [("lines", .ref u), ("fields", .ref u2)]))) := stays_put pE0 ff1
    have bG : But p H (L2.upd HG p (.ins OC dx (putF "net" (.ref nv) [("lines", .ref u), ("fields", .ref u2)]))) := bE0.updF
    have pG : (L2.upd HG p (.ins OC dx (putF "net" (.ref nv) [("lines", .ref u), ("fields", .ref u2)]))) p = some (.ins OC dx [("lines", .ref u), ("fields", .ref u2), ("net", .ref nv)]) := upd_same
    have hTI := hTG.stays stG
    have hFI := ItmsAt.stays stG _ _ hFG
    have u2I := stG _ _ u2G notF_tup
    have hNI : NetFar NC HB (L2.upd HG p (.ins OC dx (putF "net" (.ref nv) [("lines", .ref u), ("fields", .ref u2)]))) nv (formN js) := hN.putF pE0 ff1
    show _
    generalize L2.upd HG p (.ins OC dx (putF "net" (.ref nv) [("lines", .ref u), ("fields", .ref u2)])) = HI at bG pG hTI hFI u2I hNI ⊢
    obtain ⟨ts, uI, lts, hII⟩ := id hTI
    have each : ∀ ps ∈ js, sizL ps ≤ 200 := fun ps hp => Nat.le_trans (sum_mem (List.mem_map.mpr ⟨ps, hp, rfl⟩)) siz0
    refine ⟨_, rfl, p, OC, dx, _, _, rfl, pG, T.clO, T.nO1, lk_hit, u, js, ts, rfl, uI, lts, fun j r ps er ep => (hII j r ps er ep).row, ne0, okJ.hi, okJ.deep, each, fun l3 HJ sJ el3 => ?_⟩
    refine ⟨l3, _, rfl, .inl ⟨SqL.of el3, fun u3 nu3 => ?_⟩⟩
    have s4u3 := sJ.trans (same_new (o := .tup ((hldF js).map hV)) nu3)
    have bJ0 := bG.transF s4u3
    have pJ0 := s4u3 _ _ pG
    have hTJ := hTI.stays (stays_of s4u3)
    have hFJ := ItmsAt.same s4u3 _ _ hFI
    have u2J := s4u3 _ _ u2I
    have hNJ := hNI.same s4u3
    have e3J : (L2.upd HJ u3 (.tup ((hldF js).map hV))) u3 = some (.tup ((hldF js).map hV)) := upd_same
    generalize L2.upd HJ u3 (.tup ((hldF js).map hV)) = HL at bJ0 pJ0 hTJ hFJ u2J hNJ e3J ⊢
    refine ⟨_, rfl, p, OC, dx, _, rfl, pJ0, T.clO, T.nO4, (by show 3 < 1000; decide), ?_⟩
    -- owner_sets
    have stL : Stays HL (L2.upd HL p (.ins OC dx (putF "holders" (.ref u3) [("lines", .ref u), ("fields", .ref u2), ("net", .ref nv)]))) := stays_put pJ0 ff1
    have bL : But p H (L2.upd HL p (.ins OC dx (putF "holders" (.ref u3) [("lines", .ref u), ("fields", .ref u2), ("net", .ref nv)]))) := bJ0.updF
    have pL : (L2.upd HL p (.ins OC dx (putF "holders" (.ref u3) [("lines", .ref u), ("fields", .ref u2), ("net", .ref nv)]))) p = some (.ins OC dx [("lines", .ref u), ("fields", .ref u2), ("net", .ref nv), ("holders", .ref u3)]) := upd_same
    have hTL := hTJ.stays stL
    have hFL := ItmsAt.stays stL _ _ hFJ
    have u2L := stL _ _ u2J notF_tup
    have hNL : NetFar NC HB (L2.upd HL p (.ins OC dx (putF "holders" (.ref u3) [("lines", .ref u), ("fields", .ref u2), ("net", .ref nv)]))) nv (formN js) := hNJ.putF pJ0 ff1
    have e3L := stL _ _ e3J notF_tup
    show _
    generalize L2.upd HL p (.ins OC dx (putF "holders" (.ref u3) [("lines", .ref u), ("fields", .ref u2), ("net", .ref nv)])) = HM at bL pL hTL hFL u2L hNL e3L ⊢
    have lh := hldF_len js
    refine ⟨_, rfl, p, OC, dx, _, _, rfl, pL, T.clO, T.nO4, (lk_ne (by decide +kernel)).trans ((lk_ne (by decide +kernel)).trans ((lk_ne (by decide +kernel)).trans lk_hit)), u3, hldF js, nmsL js, rfl, e3L, (by have := okJ.siz; omega), fun o ho n e => hldF_nm js n (by rw [← e]; exact ho), okJ.few, fun ov HO sO => ?_⟩
    have pO := sO _ _ pL
    refine ⟨_, rfl, p, OC, dx, _, rfl, pO, T.clO, T.nO5, (by show 4 < 1000; decide), ?_⟩
    have stO : Stays HO (L2.upd HO p (.ins OC dx (putF "owner_sets" ov [("lines", .ref u), ("fields", .ref u2), ("net", .ref nv), ("holders", .ref u3)]))) := stays_put pO ff1
    have s2 := (stays_of sO).trans stO
    exact q _ (bL.transF sO).updF ⟨dx, u, u2, nv, u3, ov, ys, upd_same, hTL.stays s2, s2 _ _ u2L notF_tup, ItmsAt.stays s2 _ _ hFL, (hNL.same sO).putF pO ff1, s2 _ _ e3L notF_tup, okJ⟩
end
end K14

set_option autoImplicit false
set_option maxErrors 4
/-! list(zip(x, y)) -/
namespace TlZ
open PySem
/-- a zip whose last tuple is in other hands -/
abbrev ZOut (h : Heap) (zp TI TO a : Addr) (f : Bool) : Prop := h.get? zp = some { cls := .type "zip", dict := none, data := .fields #[rawInt a, .bool f, .bool false, .ref TI, .ref TO], slots := #[] }
section
variable {prog : Program} {w : World} {A : Around} {E : Value → Shared → Prop} {s : Shared} {zp TI TO i1 i2 : Addr} {fp1 fp2 : List Addr} {n1 n2 i : Nat} {P1 P2 : Nat → Value → Prop} {St1 St2 : Nat → Heap → Prop}
/-- the tuple told last is in other hands: it is not free -/
theorem zo_free {a : Addr} {f : Bool} {oa : Obj} (hz : ZOut s.heap zp TI TO a f) (ha : s.heap.get? a = some oa) :
    wpAny (model prog w) A (Builtin.SmallTypes.ownedTupleIsFree (.ref zp)) (fun b s' => b = false ∧ ∃ h1, s' = { s with heap := h1 } ∧ ZOut h1 zp TI TO a true ∧ Heap.SameBut zp s.heap h1) E s := by
  unfold Builtin.SmallTypes.ownedTupleIsFree; refine wpAny_bind (wpAny_field hz rfl (x := rawInt a) rfl ?_); show wpAny _ _ (loadIfAlive ((a : Int).toNat) >>= _) _ _ _
  rw [Int.toNat_natCast]
  refine wpAny_bind (W.kdx_alive ha ?_); simp only [Option.isNone_some, Bool.false_eq_true, if_false]
  refine wpAny_bind (wpAny_field hz rfl (x := .bool f) rfl ?_); cases f with
  | true =>
    rw [if_neg (show ¬ ((Value.bool true != Value.bool true) = true) from Bool.false_ne_true)]; exact wpAny_pure ⟨rfl, s.heap, rfl, hz, Heap.SameBut.refl _ _⟩
  | false =>
    rw [if_pos (show (Value.bool false != Value.bool true) = true from rfl)]; exact wpAny_bind (wpAny_setField_rec hz (by simp) fun h3 hz3 hs3 => wpAny_pure ⟨rfl, h3, rfl, hz3, hs3⟩)
theorem zo_item {a : Addr} {f : Bool} {oa : Obj} {Q : Option Value → Shared → Prop} (S : ZipSep2 zp TI TO i1 i2 fp1 fp2) (D1 : Draws prog w A.in1 i1 fp1 n1 P1 St1) (D2 : Draws prog w A.in1 i2 fp2 n2 P2 St2)
    (hz : ZOut s.heap zp TI TO a f) (ha : s.heap.get? a = some oa) (hTI : IsTupOf2 s.heap TI (.ref i1) (.ref i2)) (st1 : St1 i s.heap) (st2 : St2 i s.heap) (lt1 : i < n1) (lt2 : i < n2)
    (hQ : ∀ x1 x2 h' tk, P1 i x1 → P2 i x2 → ZOut h' zp TI TO a true → St1 (i + 1) h' → St2 (i + 1) h' → IsTupOf2 h' s.heap.objs.size x1 x2 → h'.objs.size = s.heap.objs.size + 1 →
      (∀ c o, c ≠ zp → c ≠ i1 → c ≠ i2 → s.heap.get? c = some o → h'.get? c = some o) → Q (some (.ref s.heap.objs.size)) { s with heap := h', toks := tk }) :
    wpAny (model prog w) A (pyNext (.ref zp)) Q E s := by
  have hT : s.TypeIs (.ref zp) "zip" := ⟨_, hz, rfl⟩
  unfold pyNext
  refine wpAny_bind (wpAny_attempt (wpAny_callSpecial?_slot (name := Str.ofString "__next__") hT F.slot_zip_next (wpAny_call_entry F.slot_zip_next hT F.entry_zip_next ?_ (F.args_zip_next_1 _))))
  obtain ⟨hp, gs, dr, tk0, os⟩ := s
  show wpAny _ _ (field (.ref zp) 2 >>= _) _ _ _
  refine wpAny_bind (wpAny_field hz rfl (x := .bool false) rfl ?_); show wpAny _ _ (field (.ref zp) 3 >>= _) _ _ _
  refine wpAny_bind (wpAny_field hz rfl (x := .ref TI) rfl ?_); refine wpAny_bind (wpAny_seqItems hTI rfl ?_)
  show wpAny _ _ (Builtin.SmallTypes.ownedTupleIsFree (.ref zp) >>= _) _ _ _
  refine wpAny_bind (wpAny_mono (zo_free hz ha) (fun b s' hb => ?_) fun _ _ x => x)
  obtain ⟨rfl, h1, rfl, hz1, hs1⟩ := hb
  replace hs1 : Heap.SameBut zp hp h1 := hs1
  simp only [Bool.false_eq_true, if_false, List.forIn_toArray, List.forIn_cons, List.forIn_nil]
  refine wpAny_bind (wpAny_bind (wpAny_bind (wpAny_holding ?_))); show wpAny _ _ (Builtin.SmallTypes.nextOf (.ref i1) >>= _) _ _ ⟨h1, gs, dr, tk0, os⟩
  refine wpAny_bind (D1.item i _ _ _ lt1 (D1.over st1 hs1 S.zf1) fun x1 h2 tk1 hx1 sn1 hs2 => wpAny_pure ?_)
  replace hs2 : Heap.SameBut i1 h1 h2 := hs2
  refine wpAny_pure ?_
  refine wpAny_bind (wpAny_bind (wpAny_holding ?_)); show wpAny _ _ (Builtin.SmallTypes.nextOf (.ref i2) >>= _) _ _ ⟨h2, gs, dr, tk1, os⟩
  refine wpAny_bind (D2.item i _ _ _ lt2 (D2.over (D2.over st2 hs1 S.zf2) hs2 S.sep1_2) fun x2 h3 tk2 hx2 sn2 hs3 => wpAny_pure ?_)
  replace hs3 : Heap.SameBut i2 h2 h3 := hs3
  refine wpAny_pure (wpAny_pure ?_); show wpAny _ _ (newTuple [x1, x2] >>= _) _ _ ⟨h3, gs, dr, tk2, os⟩; refine wpAny_bind (wpAny_newTuple ?_)
  have hsz : h3.objs.size = hp.objs.size := by rw [hs3.1, hs2.1, hs1.1]
  have hz3 : ZOut h3 zp TI TO a true := hs3.extBut _ _ S.zi2 (hs2.extBut _ _ S.zi1 hz1)
  have kp : ∀ c o, c ≠ zp → c ≠ i1 → c ≠ i2 → hp.get? c = some o → (h3.push { cls := .type "tuple", data := .seq #[x1, x2] }).get? c = some o := fun c o c1 c2 c3 e => Heap.get?_push_of_some _ (hs3.extBut _ _ c3 (hs2.extBut _ _ c2 (hs1.extBut _ _ c1 e)))
  show wpAny _ _ (ret (Value.ref h3.objs.size)) _ _ ⟨h3.push { cls := .type "tuple", data := .seq #[x1, x2] }, gs, dr, tk2, os⟩
  refine wpAny_pure ⟨_, rfl, wpAny_pure ?_⟩
  have q := hQ x1 x2 (h3.push { cls := .type "tuple", data := .seq #[x1, x2] }) tk2 hx1 hx2 (Heap.get?_push_of_some _ hz3) (D1.frame _ _ _ (D1.over sn1 hs3 S.sep2_1) fun b _ o e => Heap.get?_push_of_some _ e) (D2.frame _ _ _ sn2 fun b _ o e => Heap.get?_push_of_some _ e)
    (by show IsTupOf2 _ hp.objs.size x1 x2; rw [← hsz]; exact Heap.get?_push_size _ rfl) (by rw [Heap.size_push, hsz]) kp
  rw [hsz]
  exact q
theorem zo_end {a : Addr} {f : Bool} {oa : Obj} {Q : Option Value → Shared → Prop} (S : ZipSep2 zp TI TO i1 i2 fp1 fp2) (D1 : Draws prog w A.in1 i1 fp1 n1 P1 St1)
    (hz : ZOut s.heap zp TI TO a f) (ha : s.heap.get? a = some oa) (hTI : IsTupOf2 s.heap TI (.ref i1) (.ref i2)) (st1 : St1 n1 s.heap)
    (hQ : ∀ h' tk, (∀ c o, c ≠ zp → c ≠ i1 → s.heap.get? c = some o → h'.get? c = some o) → Q none { s with heap := h', toks := tk }) :
    wpAny (model prog w) A (pyNext (.ref zp)) Q E s := by
  have hT : s.TypeIs (.ref zp) "zip" := ⟨_, hz, rfl⟩
  unfold pyNext
  refine wpAny_bind (wpAny_attempt (wpAny_callSpecial?_slot (name := Str.ofString "__next__") hT F.slot_zip_next (wpAny_call_entry F.slot_zip_next hT F.entry_zip_next ?_ (F.args_zip_next_1 _))))
  obtain ⟨hp, gs, dr, tk0, os⟩ := s
  show wpAny _ _ (field (.ref zp) 2 >>= _) _ _ _
  refine wpAny_bind (wpAny_field hz rfl (x := .bool false) rfl ?_); show wpAny _ _ (field (.ref zp) 3 >>= _) _ _ _
  refine wpAny_bind (wpAny_field hz rfl (x := .ref TI) rfl ?_); refine wpAny_bind (wpAny_seqItems hTI rfl ?_)
  show wpAny _ _ (Builtin.SmallTypes.ownedTupleIsFree (.ref zp) >>= _) _ _ _
  refine wpAny_bind (wpAny_mono (zo_free hz ha) (fun b s' hb => ?_) fun _ _ x => x)
  obtain ⟨rfl, h1, rfl, hz1, hs1⟩ := hb
  replace hs1 : Heap.SameBut zp hp h1 := hs1
  simp only [Bool.false_eq_true, if_false, List.forIn_toArray, List.forIn_cons, List.forIn_nil]
  refine wpAny_bind (wpAny_bind (wpAny_bind (wpAny_holding ?_))); show wpAny _ _ (Builtin.SmallTypes.nextOf (.ref i1) >>= _) _ _ ⟨h1, gs, dr, tk0, os⟩
  refine wpAny_bind (D1.done _ _ _ (D1.over st1 hs1 S.zf1) fun h2 e hs2 he => ?_)
  replace hs2 : Heap.ExtBut i1 h1 h2 := hs2
  obtain ⟨o, ho, hc⟩ := he
  refine wpAny_bind (wpAny_isInstance (T := "StopIteration") (b := true) ⟨o, ho, hc⟩ isSubtype_stop ?_); exact wpAny_pure (hQ _ tk0 fun c o c1 c2 e => hs2 _ _ c2 (hs1.extBut _ _ c1 e))
theorem off {x L a : Addr} (h1 : x < L) (h2 : L < a) : a ≠ x := Nat.ne_of_gt (Nat.lt_trans h1 h2)
/-- where a zip stands: nothing told so far, or the tuple told last is in other hands -/
def ZAt (h : Heap) (zp TI TO S : Addr) (i : Nat) : Prop := (i = 0 ∧ IsZip h zp TI TO .none ∧ ∃ x y, IsTupOf2 h TO x y) ∨ ∃ a f oa, ZOut h zp TI TO a f ∧ h.get? a = some oa ∧ S < a
theorem ZAt.keep {h h' : Heap} {S : Addr} (x : ZAt h zp TI TO S i) (hk : ∀ b o, b ≠ S → h.get? b = some o → h'.get? b = some o) (nz : zp ≠ S) (nT : TO ≠ S) : ZAt h' zp TI TO S i := by
  rcases x with ⟨e, q1, u, v, q2⟩ | ⟨a, f, oa, q1, q2, q3⟩
  · exact .inl ⟨e, hk _ _ nz q1, u, v, hk _ _ nT q2⟩
  · exact .inr ⟨a, f, oa, hk _ _ nz q1, hk _ _ (Nat.ne_of_gt q3) q2, q3⟩
theorem z_item {L : Addr} {Q : Option Value → Shared → Prop} (S : ZipSep2 zp TI TO i1 i2 fp1 fp2) (D1 : Draws prog w A.in1 i1 fp1 n1 P1 St1) (D2 : Draws prog w A.in1 i2 fp2 n2 P2 St2)
    (hz : ZAt s.heap zp TI TO L i) (hL : L < s.heap.objs.size) (lz : zp < L) (l1 : i1 < L) (l2 : i2 < L) (hTI : IsTupOf2 s.heap TI (.ref i1) (.ref i2)) (st1 : St1 i s.heap) (st2 : St2 i s.heap) (lt1 : i < n1) (lt2 : i < n2)
    (hQ : ∀ x1 x2 h' tk, P1 i x1 → P2 i x2 → ZAt h' zp TI TO L (i + 1) → St1 (i + 1) h' → St2 (i + 1) h' → IsTupOf2 h' s.heap.objs.size x1 x2 → h'.objs.size = s.heap.objs.size + 1 →
      (∀ c o, c ≠ zp → c ≠ TO → c ≠ i1 → c ≠ i2 → s.heap.get? c = some o → h'.get? c = some o) → Q (some (.ref s.heap.objs.size)) { s with heap := h', toks := tk }) :
    wpAny (model prog w) A (pyNext (.ref zp)) Q E s := by
  rcases hz with ⟨e, q1, u, v, q2⟩ | ⟨a, f, oa, q1, q2, q3⟩
  · exact wpAny_pyNext_zipD2_item S D1 D2 q1 hTI q2 st1 st2 lt1 lt2 fun x1 x2 h' tk y1 y2 y3 _ y5 y6 y7 y8 y9 => hQ x1 x2 h' tk y1 y2 (.inr ⟨_, _, _, y3, y7, hL⟩) y5 y6 y7 y8 y9
  · exact zo_item S D1 D2 q1 q2 hTI st1 st2 lt1 lt2 fun x1 x2 h' tk y1 y2 y3 y5 y6 y7 y8 y9 => hQ x1 x2 h' tk y1 y2 (.inr ⟨a, true, oa, y3, y9 a oa (off lz q3) (off l1 q3) (off l2 q3) q2, q3⟩) y5 y6 y7 y8 fun c o c1 _ c3 c4 e => y9 c o c1 c3 c4 e
theorem z_done {L : Addr} {Q : Option Value → Shared → Prop} (S : ZipSep2 zp TI TO i1 i2 fp1 fp2) (D1 : Draws prog w A.in1 i1 fp1 n1 P1 St1) (D2 : Draws prog w A.in1 i2 fp2 n1 P2 St2)
    (hz : ZAt s.heap zp TI TO L n1) (hTI : IsTupOf2 s.heap TI (.ref i1) (.ref i2)) (st1 : St1 n1 s.heap) (st2 : St2 n1 s.heap)
    (hQ : ∀ h' tk, (∀ c o, c ≠ zp → c ≠ TO → c ≠ i1 → c ≠ i2 → s.heap.get? c = some o → h'.get? c = some o) → Q none { s with heap := h', toks := tk }) :
    wpAny (model prog w) A (pyNext (.ref zp)) Q E s := by
  rcases hz with ⟨e, q1, u, v, q2⟩ | ⟨a, f, oa, q1, q2, q3⟩
  · exact wpAny_pyNext_zipD2_end S D1 D2 q1 hTI q2 st1 st2 (Nat.le_refl _) (Nat.le_refl _) (.inl rfl) hQ
  · exact zo_end S D1 q1 q2 hTI st1 fun h' tk k => hQ h' tk fun c o c1 _ c3 _ e => k c o c1 c3 e
/-- the tuples told so far -/
structure ZG (P1 P2 : Nat → Value → Prop) (lo : Addr) (h : Heap) (as : List Addr) : Prop where
  rise : as.Pairwise (· < ·)
  above : ∀ a ∈ as, lo < a
  pairs : ∀ (j : Nat) (a : Addr), as[j]? = some a → ∃ x1 x2, P1 j x1 ∧ P2 j x2 ∧ IsTupOf2 h a x1 x2
theorem ZG.there {lo : Addr} {h : Heap} {as : List Addr} (g : ZG P1 P2 lo h as) {a : Addr} (ha : a ∈ as) : a < h.objs.size := by
  obtain ⟨j, hj⟩ := List.mem_iff_getElem?.mp ha
  obtain ⟨_, _, _, _, e⟩ := g.pairs j a hj
  exact Heap.lt_size e
/-- the cells lie below the list, and what the iterators read is not the list -/
structure ZLow (zp TI TO i1 i2 L : Addr) (fp1 fp2 : List Addr) : Prop where
  z : zp < L
  I : TI < L
  O : TO < L
  a : i1 < L
  b : i2 < L
  f1 : L ∉ fp1
  f2 : L ∉ fp2
theorem z_loop {L : Addr} {R : Result → Shared → Prop} {n : Nat} (S : ZipSep2 zp TI TO i1 i2 fp1 fp2) (D1 : Draws prog w A.in1.in1 i1 fp1 n P1 St1) (D2 : Draws prog w A.in1.in1 i2 fp2 n P2 St2) (B : ZLow zp TI TO i1 i2 L fp1 fp2) (hn : n ≤ sizeLine) (res : Value) {h₁ : Heap}
    (hR : ∀ h' tk acc c as, (∀ b o, b ≠ L → b ≠ zp → b ≠ TO → b ≠ i1 → b ≠ i2 → h₁.get? b = some o → h'.get? b = some o) → h'.get? L = some { cls := .type "list", dict := none, data := .seq acc c, slots := #[] } → as.length = n → ZG P1 P2 L h' as →
      acc.toList = as.map Value.ref → R (.ok (.ret res)) { s with heap := h', toks := tk }) :
    ∀ (k i : Nat) (h : Heap) (tk c : Nat) (acc : Array Value) (as : List Addr), n - i = k → i ≤ n → ZAt h zp TI TO L i → IsTupOf2 h TI (.ref i1) (.ref i2) → St1 i h → St2 i h → (∀ b o, b ≠ L → b ≠ zp → b ≠ TO → b ≠ i1 → b ≠ i2 → h₁.get? b = some o → h.get? b = some o) →
      h.get? L = some { cls := .type "list", dict := none, data := .seq acc c, slots := #[] } → acc.toList = as.map Value.ref → as.length = i → ZG P1 P2 L h as →
      codeAny (model prog w) A (.builtin "list.extend.loop" ⟨[.ref L, .ref zp, res], []⟩) R { s with heap := h, toks := tk } := by
  have n1 : L ≠ zp := Nat.ne_of_gt B.z
  have n2 : L ≠ TO := Nat.ne_of_gt B.O
  have n3 : L ≠ i1 := Nat.ne_of_gt B.a
  have n4 : L ≠ i2 := Nat.ne_of_gt B.b
  intro k
  induction k with
  | zero =>
    intro i h tk c acc as hk hi hst hTI s1 s2 hkeep hL hacc hal hG
    obtain rfl : i = n := by omega
    refine codeAny_builtin PySem.F.entry_extend_loop ?_; rw [Around.under_plainId PySem.F.plain_extend_loop _]; show wpAny _ A.in1 (pyNext (.ref zp) >>= _) _ _ _
    refine wpAny_bind (z_done (s := { s with heap := h, toks := tk }) (A := A.in1) S D1 D2 hst hTI s1 s2 fun h' tk' he => ?_)
    refine wpAny_pure (hR h' tk' acc c as (fun b o h1 h2 h3 h4 h5 e => he b o h2 h3 h4 h5 (hkeep b o h1 h2 h3 h4 h5 e)) (he L _ n1 n2 n3 n4 hL) hal ⟨hG.rise, hG.above, fun j a hj => ?_⟩ hacc)
    obtain ⟨x1, x2, e1, e2, e3⟩ := hG.pairs j a hj
    have la := hG.above a (List.mem_of_getElem? hj)
    exact ⟨x1, x2, e1, e2, he a _ (off B.z la) (off B.O la) (off B.a la) (off B.b la) e3⟩
  | succ k ih =>
    intro i h tk c acc as hk hi hst hTI s1 s2 hkeep hL hacc hal hG
    have lt : i < n := by omega
    have hsz : acc.size = i := by rw [← Array.length_toList, hacc, List.length_map, hal]
    have lL : L < h.objs.size := Heap.lt_size hL
    refine codeAny_builtin PySem.F.entry_extend_loop ?_; rw [Around.under_plainId PySem.F.plain_extend_loop _]; show wpAny _ A.in1 (pyNext (.ref zp) >>= _) _ _ _
    refine wpAny_bind (z_item (s := { s with heap := h, toks := tk }) (A := A.in1) (L := L) S D1 D2 hst lL B.z B.a B.b hTI s1 s2 lt lt fun x1 x2 h' tk' p1 p2 hst' s1' s2' ht hz hkp => ?_)
    dsimp only at ht hz hkp ⊢
    have hL' := hkp L _ n1 n2 n3 n4 hL
    have up : ∀ b o, b ≠ L → h'.get? b = some o → (h'.update L (Obj.mapSeq (·.push (Value.ref h.objs.size)))).get? b = some o := fun b o hb e => (Heap.get?_update_other _ _ (Ne.symm hb)).trans e
    have nT : h.objs.size ≠ L := Nat.ne_of_gt lL
    show wpAny _ A.in1 (updateSeq L (·.push (Value.ref h.objs.size)) >>= _) _ _ _
    refine wpAny_bind (wpAny_updateSeq hL' rfl (wpAny_pure ⟨plainId_quiet PySem.F.plain_extend_loop _, ih (i + 1) _ tk' _ (acc.push (Value.ref h.objs.size)) (as ++ [h.objs.size]) (by omega) lt (hst'.keep up n1.symm n2.symm) (up _ _ (Nat.ne_of_lt B.I) (hkp _ _ S.TIz S.TITO S.TIi1 S.TIi2 hTI))
      (D1.frame _ _ _ s1' fun b hb o e => up b o (fun q => B.f1 (q ▸ hb)) e) (D2.frame _ _ _ s2' fun b hb o e => up b o (fun q => B.f2 (q ▸ hb)) e) (fun b o h1 h2 h3 h4 h5 e => up b o h1 (hkp b o h2 h3 h4 h5 (hkeep b o h1 h2 h3 h4 h5 e)))
      (Heap.get?_update_self _ hL' rfl) (by rw [Array.toList_push, hacc, List.map_append]; rfl) (by rw [List.length_append, hal]; rfl) ⟨?_, ?_, ?_⟩⟩) (by rw [hsz]; omega) (by show (acc.push (Value.ref h.objs.size)).size ≤ sizeLine + 1; rw [Array.size_push, hsz]; omega))
    · exact List.pairwise_append.mpr ⟨hG.rise, List.pairwise_singleton _ _, fun a ha b hb => by
        rw [List.mem_singleton.mp hb]
        exact hG.there ha⟩
    · intro a ha
      rcases List.mem_append.mp ha with ha | ha
      · exact hG.above a ha
      · rw [List.mem_singleton.mp ha]
        exact lL
    · intro j b hj
      rcases Nat.lt_or_ge j as.length with l | g
      · rw [List.getElem?_append_left l] at hj
        obtain ⟨y1, y2, e1, e2, e3⟩ := hG.pairs j b hj
        have la := hG.above b (List.mem_of_getElem? hj)
        exact ⟨y1, y2, e1, e2, up b _ (Nat.ne_of_gt la) (hkp b _ (off B.z la) (off B.O la) (off B.a la) (off B.b la) e3)⟩
      · have ej : j = as.length := by
          obtain ⟨q, _⟩ := List.getElem?_eq_some_iff.mp hj
          rw [List.length_append, List.length_singleton] at q
          omega
        subst ej
        rw [List.getElem?_append_right (Nat.le_refl _), Nat.sub_self] at hj
        cases hj
        rw [hal]
        exact ⟨x1, x2, p1, p2, up _ _ nT ht⟩
theorem zip_no_len : typeLookup (.type "zip") "__len__" = pure none := by rw [typeLookup_type, builtinLookup_eq_fast]; kernel_rfl
theorem zip_no_hint : typeLookup (.type "zip") "__length_hint__" = pure none := by rw [typeLookup_type, builtinLookup_eq_fast]; kernel_rfl
theorem z_hint (hT : s.TypeIs (.ref zp) "zip") {Q : Bool → Shared → Prop} (h : Q true s) : wpAny (model prog w) A (Builtin.List.listLengthHint (.ref zp)) Q E s := by
  unfold Builtin.List.listLengthHint; refine wpAny_bind (wpAny_specialOf hT zip_no_len ?_)
  show wpAny _ A (specialOf (Value.ref zp) (Str.ofString "__length_hint__") >>= _) _ _ _
  exact wpAny_bind (wpAny_specialOf hT zip_no_hint (wpAny_pure h))
theorem z_extend {L : Addr} {R : Result → Shared → Prop} {n c₀ : Nat} (S : ZipSep2 zp TI TO i1 i2 fp1 fp2) (D1 : Draws prog w A.in1.in1 i1 fp1 n P1 St1) (D2 : Draws prog w A.in1.in1 i2 fp2 n P2 St2) (B : ZLow zp TI TO i1 i2 L fp1 fp2) (hn : n ≤ sizeLine) (res : Value)
    (hz : IsZip s.heap zp TI TO .none) (hTO : ∃ x y, IsTupOf2 s.heap TO x y) (hTI : IsTupOf2 s.heap TI (.ref i1) (.ref i2)) (s1 : St1 0 s.heap) (s2 : St2 0 s.heap) (hL : s.heap.get? L = some { cls := .type "list", data := .seq #[] c₀ })
    (hR : ∀ h' tk acc c as, (∀ b o, b ≠ L → b ≠ zp → b ≠ TO → b ≠ i1 → b ≠ i2 → s.heap.get? b = some o → h'.get? b = some o) → h'.get? L = some { cls := .type "list", dict := none, data := .seq acc c, slots := #[] } → as.length = n → ZG P1 P2 L h' as →
      acc.toList = as.map Value.ref → R (.ok (.ret res)) { s with heap := h', toks := tk }) :
    wpAny (model prog w) A.in1 (Builtin.List.listExtendWith (.ref L) (.ref zp) res)
      (fun fin s' => match fin with | .done f => R (.ok f) s' | .again c' => c'.quiet = true ∧ codeAny (model prog w) A c' R s') (fun e s' => R (.error e) s') s := by
  obtain ⟨u, v, hTO⟩ := hTO
  have key : ∀ (h : Heap) (c₁ : Nat), (∀ b o, b ≠ L → s.heap.get? b = some o → h.get? b = some o) → h.get? L = some { cls := .type "list", data := .seq #[] c₁ } →
      codeAny (model prog w) A (.builtin "list.extend.loop" ⟨[.ref L, .ref zp, res], []⟩) R { s with heap := h } := fun h c₁ hk hL₁ =>
    z_loop (s := s) (h₁ := s.heap) S D1 D2 B hn res hR n 0 h s.toks c₁ #[] [] (Nat.sub_zero _) (Nat.zero_le _) (.inl ⟨rfl, hk _ _ (Nat.ne_of_lt B.z) hz, u, v, hk _ _ (Nat.ne_of_lt B.O) hTO⟩) (hk _ _ (Nat.ne_of_lt B.I) hTI)
      (D1.frame _ _ _ s1 fun b hb o e => hk b o (fun q => B.f1 (q ▸ hb)) e) (D2.frame _ _ _ s2 fun b hb o e => hk b o (fun q => B.f2 (q ▸ hb)) e) (fun b o hb _ _ _ _ e => hk b o hb e) hL₁ rfl rfl ⟨List.Pairwise.nil, (fun _ ha => nomatch ha), fun j a hj => by simp at hj⟩
  have hT : s.TypeIs (.ref zp) "zip" := ⟨_, hz, rfl⟩
  unfold Builtin.List.listExtendWith; refine wpAny_bind (wpAny_typeOf (T := "zip") hT ?_)
  have q1 : Builtin.List.listSameRef (.ref L) (.ref zp) = false := by simp [Builtin.List.listSameRef, Nat.ne_of_gt B.z]
  have q2 : (Value.type "zip" == Value.type "list") = false := by decide
  have q3 : (Value.type "zip" == Value.type "tuple") = false := by decide
  simp only [q1, q2, q3, Bool.or_false, Bool.false_eq_true, if_false]
  refine wpAny_bind (wpAny_pyIter_zip hz ?_); refine wpAny_bind (wpAny_holding (z_hint hT ?_))
  refine wpAny_ite_split (fun _ => ?_) (fun _ => wpAny_pure ⟨plainId_quiet PySem.F.plain_extend_loop _, key _ c₀ (fun b o _ e => e) hL⟩)
  refine wpAny_bind (wpAny_rule (wpAny_bind ?_)); show wpAny _ _ (updateSeq L (·.push .none) >>= fun _ => updateSeq L (·.pop)) _ _ _
  refine wpAny_bind (wpAny_updateSeq hL rfl ?_)
  have hL₂ := Heap.get?_update_self (Obj.mapSeq (·.push Value.none)) hL rfl
  refine wpAny_updateSeq (hz := by seq_fits) hL₂ rfl ?_
  have hL₃ := Heap.get?_update_self (Obj.mapSeq (·.pop)) hL₂ rfl
  exact wpAny_pure ⟨plainId_quiet PySem.F.plain_extend_loop _, key _ _ (fun b o hb e => (Heap.get?_update_other _ _ (Ne.symm hb)).trans ((Heap.get?_update_other _ _ (Ne.symm hb)).trans e)) hL₃⟩
/-- list(z), z a zip of two that are as long -/
theorem z_list {Q : Value → Shared → Prop} {n : Nat} (S : ZipSep2 zp TI TO i1 i2 fp1 fp2) (D1 : Draws prog w A.in1.in1.in1 i1 fp1 n P1 St1) (D2 : Draws prog w A.in1.in1.in1 i2 fp2 n P2 St2) (f1 : ∀ b ∈ fp1, b < s.heap.objs.size) (f2 : ∀ b ∈ fp2, b < s.heap.objs.size) (hn : n ≤ sizeLine)
    (hz : IsZip s.heap zp TI TO .none) (hTO : ∃ x y, IsTupOf2 s.heap TO x y) (hTI : IsTupOf2 s.heap TI (.ref i1) (.ref i2)) (s1 : St1 0 s.heap) (s2 : St2 0 s.heap)
    (hQ : ∀ h' tk acc c as, (∀ b o, b ≠ zp → b ≠ TO → b ≠ i1 → b ≠ i2 → s.heap.get? b = some o → h'.get? b = some o) → h'.get? s.heap.objs.size = some { cls := .type "list", dict := none, data := .seq acc c, slots := #[] } → as.length = n → ZG P1 P2 s.heap.objs.size h' as →
      acc.toList = as.map Value.ref → Q (.ref s.heap.objs.size) { s with heap := h', toks := tk }) :
    wpAny (model prog w) A (call (.type "list") [.ref zp]) Q E s := by
  refine callType_codes (Q₁ := fun obj s₁ => obj = .ref s.heap.objs.size ∧ s₁ = { s with heap := s.heap.push { cls := .type "list", data := .seq #[] } }) PySem.F.called_list (PySem.F.typeCall_list_1 _) PySem.F.entry_list_init (code_list_new _ ⟨rfl, rfl⟩) fun obj s₁ h₁ => ?_
  obtain ⟨rfl, rfl⟩ := h₁
  obtain ⟨u, v, hTO⟩ := hTO
  have hS : (s.heap.push { cls := .type "list", data := .seq #[] }).get? s.heap.objs.size = some { cls := .type "list", data := .seq #[] } := Heap.get?_push_size _ rfl
  have lt : ∀ {b : Addr} {o : Obj}, s.heap.get? b = some o → b < s.heap.objs.size := fun e => Heap.lt_size e
  have l1 : i1 < s.heap.objs.size := by obtain ⟨_, e⟩ := D1.live _ _ s1; exact lt e
  have l2 : i2 < s.heap.objs.size := by obtain ⟨_, e⟩ := D2.live _ _ s2; exact lt e
  have B : ZLow zp TI TO i1 i2 s.heap.objs.size fp1 fp2 := ⟨lt hz, lt hTI, lt hTO, l1, l2, fun q => Nat.lt_irrefl _ (f1 _ q), fun q => Nat.lt_irrefl _ (f2 _ q)⟩
  refine ⟨⟨_, hS, rfl⟩, PySem.F.args_list_init_2 _ _, ?_⟩
  show wpAny _ _ (do let old ← Builtin.List.listItems (.ref s.heap.objs.size); Builtin.List.listUpdate (.ref s.heap.objs.size) (fun _ => #[]); letGo old.toList.reverse; Builtin.List.listExtendWith (.ref s.heap.objs.size) (.ref zp) .none) _ _ _
  refine wpAny_bind ?_; unfold Builtin.List.listItems
  refine wpAny_bind (wpAny_seqItems hS rfl (wpAny_pure ?_)); show wpAny _ _ (updateSeq s.heap.objs.size (fun _ => #[]) >>= fun _ => letGo (#[] : Array Value).toList.reverse >>= fun _ => Builtin.List.listExtendWith (.ref s.heap.objs.size) (.ref zp) .none) _ _ _
  refine wpAny_bind (wpAny_updateSeq hS rfl ?_)
  have hS₂ := Heap.get?_update_self (Obj.mapSeq (fun _ => (#[] : Array Value))) hS rfl
  have up : ∀ b o, s.heap.get? b = some o → ((s.heap.push { cls := .type "list", data := .seq #[] }).update s.heap.objs.size (Obj.mapSeq (fun _ => (#[] : Array Value)))).get? b = some o :=
    fun b o e => (Heap.get?_update_other _ _ (Ne.symm (Nat.ne_of_lt (lt e)))).trans (Heap.get?_push_of_some _ e)
  refine wpAny_bind (wpAny_letGo ?_)
  refine z_extend (A := A.in1) S D1 D2 B hn .none (up _ _ hz) ⟨u, v, up _ _ hTO⟩ (up _ _ hTI) (D1.frame _ _ _ s1 fun b _ o e => up b o e) (D2.frame _ _ _ s2 fun b _ o e => up b o e) hS₂ (fun h' tk acc c as hk hS' hl hG hacc => ?_)
  exact ⟨rfl, hQ h' tk acc c as (fun b o h2 h3 h4 h5 e => hk b o (Nat.ne_of_lt (lt e)) h2 h3 h4 h5 (up b o e)) hS' hl hG hacc⟩
end
end TlZ

set_option autoImplicit false
set_option maxErrors 4
/-! list(zip(t, l)) as an expression: t a tuple, l a list, as long -/
namespace Tl
open PySem PySem.Spec PyProof.Rows L2
/-- the tuples and the list, told -/
def zipH (H : Hp) (S : Addr) (as : List Addr) (xs ys : List V) : Hp := fun b => if b = S then some (.lst (as.map V.ref)) else if b ∈ as then some (.tup [xs.getD (as.idxOf b) .non, ys.getD (as.idxOf b) .non]) else H b
theorem vals_get : ∀ {xs : List V} {us : List Value}, Vals xs us → ∀ {j : Nat} {u : Value}, us[j]? = some u → ∃ x, xs[j]? = some x ∧ RelV x u
  | _, _, .nil, j, u, h => by simp at h
  | _, _, .cons r t, 0, u, h => by
    obtain rfl := Option.some.inj h
    exact ⟨_, rfl, r⟩
  | _, _, .cons r t, j + 1, u, h => vals_get t h
theorem idx_rise {as : List Addr} (h : as.Pairwise (· < ·)) {j : Nat} {t : Addr} (e : as[j]? = some t) : as.idxOf t = j := by
  obtain ⟨hj, e⟩ := List.getElem?_eq_some_iff.mp e
  have hm : t ∈ as := by rw [← e]; exact List.getElem_mem _
  have hi : as.idxOf t < as.length := List.idxOf_lt_length_of_mem hm
  have ei : as[as.idxOf t] = t := List.getElem_idxOf hi
  have pw := List.pairwise_iff_getElem.mp h
  rcases Nat.lt_trichotomy (as.idxOf t) j with l | l | l
  · have := pw _ _ hi hj l
    rw [ei, e] at this
    exact absurd this (Nat.lt_irrefl _)
  · exact l
  · have := pw _ _ hj hi l
    rw [ei, e] at this
    exact absurd this (Nat.lt_irrefl _)
def rZipTL (K : PySem.W.Frag) : List V → Hp → VK → Prop := fun vs H Q => ∃ (a b : Addr) (xs ys : List V), vs = [.ref a, .ref b] ∧ SqT K H a xs ∧ SqL K H b ys ∧ xs.length = ys.length ∧
  ∀ (H' : Hp) (p : Addr) (ts : List Addr), Same H H' → H p = none → (∀ t ∈ ts, H t = none) → p ∉ ts → H' p = some (.lst (ts.map V.ref)) → ts.length = xs.length →
    (∀ (j : Nat) (t : Addr) (x y : V), ts[j]? = some t → xs[j]? = some x → ys[j]? = some y → H' t = some (.tup [x, y])) → Q (.ref p) H'
section
variable {X : Cx} {e e2 : Expr} {ta : TA} {p p2 pos pos2 : Pos}
theorem zip_laid {pins : List (Addr × Obj)} {σ : L2.St} {H : Hp} {s : Shared} {h' : Heap} {tk : Nat} {xs ys : List V} {its its2 : List Value} {acc : Array Value} {c : Nat} {as : List Addr} {S : Addr} (I : Inv X pins σ H s) (r1 : Vals xs its) (r2 : Vals ys its2)
    (hk : ∀ b o, s.heap.get? b = some o → h'.get? b = some o) (hS : h'.get? S = some { cls := .type "list", dict := none, data := .seq acc c, slots := #[] }) (lS : s.heap.objs.size ≤ S) (hl : as.length = its.length) (hz : its.length ≤ sizeLine)
    (hG : TlZ.ZG (fun i v => its.toArray[i]? = some v) (fun i v => its2.toArray[i]? = some v) S h' as) (hacc : acc.toList = as.map Value.ref) :
    (∀ b o, H b = some o → zipH H S as xs ys b = some o) ∧ H S = none ∧ (∀ t ∈ as, H t = none) ∧ S ∉ as ∧ zipH H S as xs ys S = some (.lst (as.map V.ref)) ∧
      (∀ (j : Nat) (t : Addr) (x y : V), as[j]? = some t → xs[j]? = some x → ys[j]? = some y → zipH H S as xs ys t = some (.tup [x, y])) ∧ Inv X pins σ (zipH H S as xs ys) { s with heap := h', toks := tk } := by
  have nS : S ∉ as := fun q => Nat.lt_irrefl _ (hG.above _ q)
  have fS : H S = none := I.hok.fresh lS
  have fa : ∀ t ∈ as, H t = none := fun t ht => I.hok.fresh (Nat.le_of_lt (Nat.lt_of_le_of_lt lS (hG.above t ht)))
  have low : ∀ {b : Addr}, b < s.heap.objs.size → b ≠ S ∧ b ∉ as := fun {b} l => ⟨Nat.ne_of_lt (Nat.lt_of_lt_of_le l lS), fun q => Nat.lt_irrefl _ (Nat.lt_trans l (Nat.lt_of_le_of_lt lS (hG.above b q)))⟩
  have off : ∀ {b : Addr}, b ≠ S → b ∉ as → zipH H S as xs ys b = H b := fun {b} n1 n2 => by
    unfold zipH
    rw [if_neg n1, if_neg n2]
  have kp : ∀ b o, H b = some o → zipH H S as xs ys b = some o := fun b o q => by
    rw [off (fun z => by rw [z, fS] at q; cases q) (fun z => by rw [fa b z] at q; cases q)]
    exact q
  have eS : zipH H S as xs ys S = some (.lst (as.map V.ref)) := by
    unfold zipH
    rw [if_pos rfl]
  have ea : ∀ {b : Addr}, b ∈ as → zipH H S as xs ys b = some (.tup [xs.getD (as.idxOf b) .non, ys.getD (as.idxOf b) .non]) := fun {b} hb => by
    unfold zipH
    rw [if_neg (fun z => nS (by rw [← z]; exact hb)), if_pos hb]
  refine ⟨kp, fS, fa, nS, eS, fun j t x y e1 e3 e4 => ?_, ?_⟩
  · rw [ea (List.mem_of_getElem? e1), idx_rise hG.rise e1, List.getD_eq_getElem?_getD, List.getD_eq_getElem?_getD, e3, e4]
    rfl
  refine I.call' (ch := []) rfl ⟨fun b o q _ _ _ => hk b o q, fun b o q _ _ _ => ⟨o.slots, hk b o q⟩, fun b o q n _ => ?_, fun b o q _ => ⟨o, hk b o q⟩, fun b zs q => kp b _ q, fun b o u q => kp b _ q, fun b ps q => ⟨#[], by rw [kp b _ q]; simp⟩⟩ (fun b u q => ?_) I.bare fun b z => by simp at z
  · obtain ⟨n1, n2⟩ := low (Heap.lt_size q)
    rw [off n1 n2]
    exact n
  · by_cases hb : b ∈ as
    · rw [ea hb] at q
      obtain rfl := Option.some.inj q
      have hi : as.idxOf b < as.length := List.idxOf_lt_length_of_mem hb
      have e1 : as[as.idxOf b]? = some b := by rw [List.getElem?_eq_getElem hi, List.getElem_idxOf hi]
      obtain ⟨x1, x2, f1, f2, f3⟩ := hG.pairs _ b e1
      obtain ⟨x, g1, k1⟩ := vals_get r1 (show its[as.idxOf b]? = some x1 by simpa using f1)
      obtain ⟨y, g2, k2⟩ := vals_get r2 (show its2[as.idxOf b]? = some x2 by simpa using f2)
      rw [List.getD_eq_getElem?_getD, List.getD_eq_getElem?_getD, g1, g2]
      exact ⟨by show 2 ≤ sizeLine; decide, [x1, x2], .cons k1 (.cons k2 .nil), ⟨_, f3, rfl, _, rfl⟩⟩
    · by_cases hb2 : b = S
      · rw [hb2] at q ⊢
        rw [eS] at q
        obtain rfl := Option.some.inj q
        refine ⟨by rw [List.length_map, hl]; exact hz, acc.toList, c, by rw [hacc]; exact LiI.vals_refs as, ?_⟩
        rw [Array.toArray_toList]
        exact hS
      · rw [off hb2 hb] at q
        exact (I.hok b u q).stay (fun d v _ y => hk d v y) (fun d y => kp d _ y) fun d zs y => kp d _ y
theorem pe_listZip (hc : X.calm = true) (ha : PA X [e, e2] ta) (hg : Gl X "list") (hm : X.mg "list" = none) (hg2 : Gl X "zip") (hm2 : X.mg "zip" = none) (hv : bootBuiltins "list" = some (.type "list"))
    (hs2 : starEach [e, e2] X.env = (false, eval e X.env) :: starEach [e2] X.env := by rfl) (hpl2 : (backTo pos2 (starEach [e2] X.env)).any (·.1) = false := by rfl)
    (hs : starEach [.Call (.Name "zip" p2) [e, e2] [] pos2] X.env = (false, eval (.Call (.Name "zip" p2) [e, e2] [] pos2) X.env) :: starEach [] X.env := by rfl) :
    PE X (.Call (.Name "list" p) [.Call (.Name "zip" p2) [e, e2] [] pos2] [] pos) (tCB (rZipTL X.K) ta) := by
  refine ⟨fun pins s σ H Q I hq => ?_⟩
  refine wpAny_Call_Name_kw (ld_blt I hg hm hv (PyProof.Rows.callWith_type1 ?_ hs rfl))
  rw [hs]
  show wpAny _ _ (spliced ((false, eval (.Call (.Name "zip" p2) [e, e2] [] pos2) X.env) :: backTo pos (starEach [] X.env))) _ _ s
  refine Calls.spliced_cons (wpAny_Call_Name_kw (ld_blt I hg2 hm2 PyProof.Rows.boot_zip (PyProof.Rows.callWith_type1 (thn (ha.run pos2 pins s σ H _ I hq) fun us s1 ⟨vs, H1, I1, rv, q1⟩ => ?_) hs2 hpl2)))
  obtain ⟨a, b, xs, ys, rfl, ht, hl, ll, q⟩ := q1
  obtain ⟨u1, u2, rfl, k1, k2⟩ : ∃ u1 u2, us = [u1, u2] ∧ RelV (.ref a) u1 ∧ RelV (.ref b) u2 := by
    cases rv with
    | cons r rr =>
      cases rr with
      | cons r' rr =>
        cases rr
        exact ⟨_, _, rfl, r, r'⟩
  cases k1
  cases k2
  obtain ⟨its, v1, t1, z1⟩ := I1.tuple ht
  obtain ⟨its2, v2, t2, z2⟩ := I1.list hl
  have l1 : xs.length = its.length := v1.length
  have l2 : ys.length = its2.length := v2.length
  have hd := I1.ok.hd hc
  have T1 : s1.heap.IsTuple a its.toArray := t1
  have T2 : s1.heap.IsList b its2.toArray := t2.isList
  have la : a < s1.heap.objs.size := by obtain ⟨o, ho, _⟩ := id T1; exact Heap.lt_size ho
  have lb : b < s1.heap.objs.size := by obtain ⟨o, ho, _⟩ := id T2; exact Heap.lt_size ho
  refine zip_begins2 (begins_tuple a its.toArray) (begins_list b its2.toArray) T1 T2 fun h1 hz hTI hTO g1 g2 hsz hk => ?_
  refine Calls.spliced_nil ?_
  have n1 : a ≠ s1.heap.objs.size := Nat.ne_of_lt la
  have n2 : b ≠ s1.heap.objs.size + 1 := Nat.ne_of_lt (Nat.lt_succ_of_lt lb)
  have D1 := Draws.tuple (prog := X.prog) (w := X.w) (A := X.A.in1.in1.in1) hd s1.heap.objs.size a n1 its.toArray
  have D2 := Draws.list (prog := X.prog) (w := X.w) (A := X.A.in1.in1.in1) hd (s1.heap.objs.size + 1) b n2 its2.toArray
  have sz1 : its.toArray.size = its.length := by rw [List.size_toArray]
  have ez : its2.toArray.size = its.toArray.size := by rw [List.size_toArray, List.size_toArray, ← l1, ← l2, ll]
  rw [ez] at D2
  have sep : ZipSep2 (s1.heap.objs.size + 4) (s1.heap.objs.size + 2) (s1.heap.objs.size + 3) s1.heap.objs.size (s1.heap.objs.size + 1) [s1.heap.objs.size, a] [s1.heap.objs.size + 1, b] :=
    zip_sep2 (fun c hc => by rw [List.mem_singleton.mp hc]; exact la) (fun c hc => by rw [List.mem_singleton.mp hc]; exact lb)
  have up : ∀ {c d : Nat}, c ≤ d → c < d + 5 := fun h => by omega
  refine TlZ.z_list (A := X.A) (s := { s1 with heap := h1 }) sep D1 D2 (fun c hc => ?_) (fun c hc => ?_) (by rw [sz1, ← l1]; exact z1) hz ⟨_, _, hTO⟩ hTI ⟨⟨_, g1, rfl, rfl⟩, T1.at fun o e => hk a o e⟩ ⟨⟨_, g2, rfl, rfl⟩, T2.at fun o e => hk b o e⟩ (fun h' tk acc c as hk' hS hlen hG hacc => ?_)
  · show c < h1.objs.size
    rw [hsz]
    rcases List.mem_cons.mp hc with e | hc
    · rw [e]
      exact up (Nat.le_refl _)
    · rw [List.mem_singleton.mp hc]
      exact up (Nat.le_of_lt la)
  · show c < h1.objs.size
    rw [hsz]
    rcases List.mem_cons.mp hc with e | hc
    · rw [e]
      exact Nat.add_lt_add_left (by decide) _
    · rw [List.mem_singleton.mp hc]
      exact up (Nat.le_of_lt lb)
  · have ne : ∀ {c : Addr} {o : Obj} (k : Nat), s1.heap.get? c = some o → c ≠ s1.heap.objs.size + k := fun k e => Nat.ne_of_lt (Nat.lt_of_lt_of_le (Heap.lt_size e) (Nat.le_add_right _ k))
    have kk : ∀ c o, s1.heap.get? c = some o → h'.get? c = some o := fun c o e => hk' c o (ne 4 e) (ne 3 e) (ne 0 e) (ne 1 e) (hk c o e)
    obtain ⟨y1, y2, y3, y4, y5, y6, y7⟩ := zip_laid (tk := tk) I1 v1 v2 kk hS (by rw [hsz]; exact Nat.le_add_right _ _) (by rw [hlen, sz1]) (by rw [← l1]; exact z1) hG hacc
    exact ⟨.ref _, _, y7, rfl, q _ _ as y1 y2 y3 y4 y5 (by rw [hlen, sz1, l1]) y6⟩
end
end Tl

set_option autoImplicit false
set_option maxErrors 4
namespace K14
open PySem PySem.Spec PyProof.Rows L2 Tl
/-! ### places, the sum of forms -/
section
variable {P : Program} {w : World} {K : PySem.W.Frag} {mg : Str → Option Value} {base : Heap} {C KC NC FC MC YC OC : Addr} {HB : Hp}
theorem zip_get {α β : Type} {as : List α} {bs : List β} {j : Nat} {x : α × β} (h : (as.zip bs)[j]? = some x) : as[j]? = some x.1 ∧ bs[j]? = some x.2 := by
  rw [List.getElem?_zip_eq_some] at h
  exact h
def spPlaces (FC MC YC KC NC OC : Addr) (HB : Hp) : Sp := fun vs H Q _ => ∃ (p : Addr) (ls : List (List Itm)), vs = [.ref p] ∧ FormAt FC MC YC KC NC OC HB H p ls ∧
  ∀ (H' : Hp) (l : Addr) (ts : List Addr), Same H H' → H l = none → (∀ t ∈ ts, H t = none) → l ∉ ts → H' l = some (.lst (ts.map V.ref)) → ts.length = (plF ls).length →
    (∀ (j : Nat) (t : Addr) (x : Option Str × Str), ts[j]? = some t → (plF ls)[j]? = some x → H' t = some (.tup [hV x.1, .str x.2])) → Q (.ref l) H'
set_option maxHeartbeats 20000000 in
theorem ok_places {f : Addr} {fd : FuncData} (F : FnP K "places" "Form.places" s_Formplaces f fd) (T : Town K mg C KC NC FC MC YC OC) (N : Nms mg) (gz : mg "zip" = none) : FnOk P w K mg base CX0 1 f fd ["self"] (spPlaces FC MC YC KC NC OC HB) := by
  have nd := sc_Formplaces.nd
  refine F.ok sc_Formplaces (fun vs H Q E h => ?_) (fun cdv A outer s H vs Q E hr h => ?_)
  · obtain ⟨p, ls, rfl, _⟩ := h
    rfl
  · obtain ⟨p, ls, rfl, ⟨dx, u, fa, n, hh, ov, ys, h1, h2, h3, h4, ⟨dn, c, fo, d, hn, n1, n2, n3, n4⟩, h6, ok⟩, q⟩ := h
    refine ⟨_, PSs.nox (pss_one (ps_ret (pe_listZip rfl (pa_cons (pe_fld (pv 0) rfl) (pa_cons (pe_fld (pe_fld (pv 0) rfl) rfl) pa_nil)) (by rfl) N.list (by rfl) gz (by decide +kernel)))), ?_⟩
    have siz : ∀ ps ∈ ls, sizL ps ≤ 500 := fun ps hp => by
      have z := ok.siz
      have z2 : sizL ps ≤ (ls.map sizL).sum := sum_mem (List.mem_map.mpr ⟨ps, hp, rfl⟩)
      omega
    obtain ⟨lz, ez⟩ := form_pl h2.ok siz
    refine ⟨_, rfl, p, OC, dx, _, _, rfl, h1, T.clO, T.nO4, (lk_ne (by decide +kernel)).trans ((lk_ne (by decide +kernel)).trans ((lk_ne (by decide +kernel)).trans lk_hit)), ?_⟩
    refine ⟨_, rfl, p, OC, dx, _, _, rfl, h1, T.clO, T.nO3, (lk_ne (by decide +kernel)).trans ((lk_ne (by decide +kernel)).trans lk_hit), n, NC, dn, _, _, rfl, n1, T.net.cl, T.net.n1, lk_hit, ?_⟩
    refine ⟨hh, c, (hldF ls).map hV, strsV (formN ls).chars, rfl, SqT.of h6, SqL.of n2, ?_, fun H' l ts s1 nl nt nlt el lt each => ?_⟩
    · unfold strsV
      rw [List.length_map, List.length_map, lz]
    · refine q H' l ts s1 nl nt nlt el ?_ fun j t x e1 e2 => ?_
      · rw [lt, List.length_map, ← ez, List.length_zip, ← lz, Nat.min_self]
      · rw [← ez] at e2
        obtain ⟨g1, g2⟩ := zip_get e2
        exact each j t _ _ e1 (by rw [List.getElem?_map, g1]; rfl) (by unfold strsV; rw [List.getElem?_map, g2]; rfl)
/-- how Form(..) is made -/
def CanForm (P : Program) (w : World) (K : PySem.W.Frag) (mg : Str → Option Value) (base : Heap) (FC MC YC KC NC OC : Addr) (HB : Hp) : Prop := ∃ f fd, Mk K OC f ∧ mg "Form" = some (.ref OC) ∧ Binds K fd ["self", "lines"] [] ∧ FnOk P w K mg base CX0 14 f fd ["self", "lines"] (spOinit FC MC YC KC NC OC HB)
def spOadd (FC MC YC KC NC OC : Addr) (HB : Hp) : Sp := fun vs H Q _ => ∃ (p q : Addr) (ls ms : List (List Itm)), vs = [.ref p, .ref q] ∧ FormAt FC MC YC KC NC OC HB H p ls ∧ FormAt FC MC YC KC NC OC HB H q ms ∧ LinesOk (ls ++ ms) ∧ Old HB H ∧
  ∀ (H' : Hp) (r : Addr), Same H H' → H r = none → FormAt FC MC YC KC NC OC HB H' r ((ls ++ ms).map joinJ) → Q (.ref r) H'
set_option maxHeartbeats 20000000 in
theorem ok_o_add {f : Addr} {fd : FuncData} (F : FnP K "__add__" "Form.__add__" s_Form_add_ f fd) (T : Town K mg C KC NC FC MC YC OC) (M : CanForm P w K mg base FC MC YC KC NC OC HB) : FnOk P w K mg base CX0 16 f fd ["self", "other"] (spOadd FC MC YC KC NC OC HB) := by
  obtain ⟨fM, fdM, MM, gM, bM, GM⟩ := M
  have nd := sc_Form_add_.nd
  refine F.ok sc_Form_add_ (fun vs H Q E h => ?_) (fun cdv A outer s H vs Q E hr h => ?_)
  · obtain ⟨p, q, ls, ms, rfl, _⟩ := h
    rfl
  · obtain ⟨p, q, ls, ms, rfl, ⟨dx, u, fa, n, hh, ov, ys, h1, h2, _, _, _, _, ok⟩, ⟨dx2, u2, fa2, n2, hh2, ov2, ys2, g1, g2, _, _, _, _, ok2⟩, okS, old, k⟩ := h
    refine ⟨_, PSs.nox (pss_one (ps_ret (pe_make MM GM hr (by rfl) T.gO bM .nil pass0 (pa_cons (pe_op op_catT (pe_fld (pv 0) rfl) (pe_fld (pv 1) rfl)) pa_nil)))), ?_⟩
    obtain ⟨rs, e1, l1, i1⟩ := id h2
    obtain ⟨ts, e2, l2, i2⟩ := id g2
    have ol := ok.lo
    have oh := okS.hi
    rw [List.length_append] at oh
    refine ⟨_, rfl, p, OC, dx, _, _, rfl, h1, T.clO, T.nO1, lk_hit, _, rfl, q, OC, dx2, _, _, rfl, g1, T.clO, T.nO1, lk_hit, ?_⟩
    refine ⟨u, u2, _, _, rfl, rfl, SqT.of e1, SqT.of e2, ?_, ?_, ?_⟩
    · intro z
      have : rs = [] := List.map_eq_nil_iff.mp z
      rw [this] at l1
      have : ([] : List Addr).length = 0 := rfl
      omega
    · rw [List.length_map, List.length_map, sizeLine_eq]
      omega
    refine ⟨fun z => ?_, fun _ t nt => ?_⟩
    · have : ts = [] := List.map_eq_nil_iff.mp z
      rw [this] at l2
      have := ok2.lo
      have : ([] : List Addr).length = 0 := rfl
      omega
    intro x dn hx hdn ne
    have sT := same_new (o := .tup (rs.map V.ref ++ ts.map V.ref)) nt
    have et : (L2.upd H t (.tup (rs.map V.ref ++ ts.map V.ref))) t = some (.tup ((rs ++ ts).map V.ref)) := by rw [upd_same, List.map_append]
    generalize L2.upd H t (.tup (rs.map V.ref ++ ts.map V.ref)) = HT at sT et hx hdn ⊢
    have sX : Same HT (upd (upd HT dn (.own x)) x (.ins OC dn [])) := fun b o e => by
      rw [upd_ne (ne_of_none e hx), upd_ne (ne_of_none e hdn)]
      exact e
    have s2 := sT.trans sX
    refine ⟨x, dn, t, ls ++ ms, rfl, upd_same, ⟨rs ++ ts, .inr (sX _ _ et), by rw [List.length_append, List.length_append, l1, l2], fun j r ps er ep => ?_⟩, okS, old.same s2, fun H' b fo => ⟨rfl, ?_⟩⟩
    · rcases Nat.lt_or_ge j rs.length with lt | ge
      · rw [List.getElem?_append_left lt] at er
        rw [List.getElem?_append_left (by omega)] at ep
        exact ((i1 j r ps er ep).stays (stays_of s2)).row
      · rw [List.getElem?_append_right ge] at er
        rw [List.getElem?_append_right (by omega), ← l1] at ep
        exact ((i2 _ r ps er ep).stays (stays_of s2)).row
    · refine k H' x (fun c o e => ?_) (sT.free hx) fo
      exact b c o (s2 _ _ e) (fun z => by rw [z, sT.free hx] at e; cases e)
end
end K14

set_option autoImplicit false
set_option maxErrors 4
namespace K14
open PySem PySem.Spec PyProof.Rows L2 Tl
/-! ### == of items and forms -/
def Lvl : Nat → NestedKey → Prop
  | _, .none => True
  | _, .num _ => True
  | _, .text _ => True
  | 0, .tup _ => False
  | n + 1, .tup ks => ∀ k ∈ ks, Lvl n k
/-- the same key -/
def Dk (K : PySem.W.Frag) : Nat → Eqv
  | 0 => DFlat
  | n + 1 => fun x y H => DFlat x y H ∨ DTup K (Dk K n) x y H
section
variable {K : PySem.W.Frag} {X : Cx} {H : Hp}
theorem mon_dk : ∀ n, Mon (Dk K n)
  | 0 => mon_flat
  | n + 1 => mon_flat.or (mon_tup (mon_dk n))
theorem eqG_dk : ∀ n, EqG X n (Dk X.K n)
  | 0 => eqG_flat
  | n + 1 => (eqG_flat.mono (Nat.zero_le _)).or (eqG_tup (mon_dk n) (eqG_dk n))
theorem nkAll_get {H : Hp} : ∀ {ks : List NestedKey} {vs : List V}, NkAll H ks vs → vs.length = ks.length ∧ ∀ (j : Nat) (k : NestedKey) (v : V), ks[j]? = some k → vs[j]? = some v → NkV H k v
  | [], _, x => by
    cases x
    exact ⟨rfl, fun j k v h => by simp at h⟩
  | k :: ks, _, x => by
    cases x with
    | cons x1 x2 =>
      obtain ⟨l, g⟩ := nkAll_get x2
      refine ⟨by rw [List.length_cons, List.length_cons, l], fun j k' v' h1 h2 => ?_⟩
      cases j with
      | zero =>
        cases h1
        cases h2
        exact x1
      | succ j => exact g j k' v' h1 h2
theorem dk_of : ∀ (n : Nat) (k : NestedKey) (x y : V), Lvl n k → NkV H k x → NkV H k y → Dk K n x y H := by
  have flat : ∀ (n : Nat) (x y : V), DFlat x y H → Dk K n x y H := fun n x y h => by
    cases n with
    | zero => exact h
    | succ n => exact .inl h
  intro n
  induction n with
  | zero =>
    intro k x y l hx hy
    cases hx with
    | non => cases hy; exact ⟨rfl, rfl, rfl⟩
    | int i => cases hy; exact ⟨rfl, rfl, by simp [eqV]⟩
    | str z => cases hy; exact ⟨rfl, rfl, by simp [eqV]⟩
    | tup e al => exact l.elim
  | succ n ih =>
    intro k x y l hx hy
    cases hx with
    | non => cases hy; exact .inl ⟨rfl, rfl, rfl⟩
    | int i => cases hy; exact .inl ⟨rfl, rfl, by simp [eqV]⟩
    | str z => cases hy; exact .inl ⟨rfl, rfl, by simp [eqV]⟩
    | tup e al =>
      cases hy with
      | tup e2 al2 =>
        obtain ⟨l1, g1⟩ := nkAll_get al
        obtain ⟨l2, g2⟩ := nkAll_get al2
        refine .inr ⟨_, _, _, _, rfl, rfl, SqT.of e, SqT.of e2, by rw [l1, l2], fun j a b ha hb => ?_⟩
        have hj : j < _ := (List.getElem?_eq_some_iff.mp ha).1
        rw [l1] at hj
        exact ih _ a b (l _ (List.getElem_mem hj)) (g1 j _ a (List.getElem?_eq_getElem hj) ha) (g2 j _ b (List.getElem?_eq_getElem hj) hb)
theorem lvl_row (r : RowL) : Lvl 2 (rowK r) := fun k hk => by
  obtain ⟨x, _, rfl⟩ := List.mem_map.mp hk
  intro k hk
  rcases x with ⟨s, l, m⟩
  rcases List.mem_cons.mp hk with e | hk
  · rw [e]
    exact True.intro
  rcases List.mem_cons.mp hk with e | hk
  · rw [e]
    exact True.intro
  rw [List.mem_singleton.mp hk]
  cases m <;> exact True.intro
theorem rows_eq {ra rb : Rws} (h : ra.map (·.1) = rb.map (·.1)) (h1 : RowsAt H ra) (h2 : RowsAt H rb) : L2.Prs (Dk K 2) (rowsV ra) (rowsV rb) H := by
  have l : ra.length = rb.length := by
    have := congrArg List.length h
    simpa using this
  refine ⟨by unfold rowsV; rw [List.length_map, List.length_map, l], fun j x y hx hy => ?_⟩
  unfold rowsV at hx hy
  rw [List.getElem?_map] at hx hy
  obtain ⟨p, ep, rfl⟩ := Option.map_eq_some_iff.mp hx
  obtain ⟨q, eq, rfl⟩ := Option.map_eq_some_iff.mp hy
  have e1 : p.1 = q.1 := by
    have z := congrArg (fun l => l[j]?) h
    simp only [List.getElem?_map, ep, eq, Option.map_some] at z
    exact Option.some.inj z
  have k1 := h1 p (List.mem_of_getElem? ep)
  have k2 := h2 q (List.mem_of_getElem? eq)
  rw [← e1] at k2
  exact dk_of 2 _ _ _ (lvl_row _) k1 k2
end
def RK (KC : Addr) : Addr → Addr → Hp → Prop := fun a b H => ∃ rows, KindL KC H a rows ∧ KindL KC H b rows
section
variable {P : Program} {w : World} {K : PySem.W.Frag} {mg : Str → Option Value} {base : Heap} {C KC NC FC MC YC OC : Addr} {HB : Hp}
theorem ok_k_eq {f : Addr} {fd : FuncData} (F : FnP K "__eq__" "Kind.__eq__" s_Kind_eq_ f fd) (T : Town K mg C KC NC FC MC YC OC) (N : Nms mg) : FnOk P w K mg base CX0 4 f fd ["self", "other"] (spEq (RK KC)) := by
  have nd := sc_Kind_eq_.nd
  refine F.ok sc_Kind_eq_ (fun vs H Q E h => ?_) (fun cdv A outer s H vs Q E hr h => ?_)
  · obtain ⟨a, b, rfl, _⟩ := h
    rfl
  · obtain ⟨a, b, rfl, ⟨rows, ka, kb⟩, q⟩ := h
    refine ⟨_, PSs.nox (pss_one (ps_ret (pe_and (pe_callB call_isi (by rfl) N.isi (by decide +kernel) (pa_cons (pv 1) (pa_cons (pe_glob (v := .ref KC) rfl T.gK rfl) pa_nil))) (pe_one (pe_cmpR (r := rEqG (DTup K (Dk K 2))) (op_eqG (rcG_tup (mon_dk 2) (eqG_dk 2)) hr) (pe_fld (pv 0) rfl) (pe_fld (pv 1) rfl) (nomark _)))))), ?_⟩
    obtain ⟨dxa, ta, na, rsa, a1, a2, ea, a4⟩ := ka
    obtain ⟨dxb, tb, nb, rsb, b1, b2, eb, b4⟩ := kb
    refine ⟨_, rfl, _, _, _, _, true, rfl, .own KC, (T.fam.sees KC mK).ty T.kd.cl b1, T.own mK, true, rfl, iteT ?_⟩
    refine ⟨_, rfl, a, KC, dxa, _, _, rfl, a1, T.kd.cl, T.kd.n1, lk_hit, _, rfl, b, KC, dxb, _, _, rfl, b1, T.kd.cl, T.kd.n1, lk_hit, ?_⟩
    exact ⟨⟨ta, tb, _, _, rfl, rfl, SqT.of a2, SqT.of b2, rows_eq (by rw [ea, eb]) a4 b4⟩, fun H' e => q H' e⟩
/-- the same item -/
def RI (FC MC YC KC NC : Addr) (HB : Hp) (φ : Itm → Prop) : Addr → Addr → Hp → Prop := fun a b H => ∃ i, φ i ∧ ItmAt FC MC YC KC NC HB H i a ∧ ItmAt FC MC YC KC NC HB H i b
def isFp (i : Itm) : Prop := isF i = true
def isMp (i : Itm) : Prop := isM i = true
def isGp (d : Nat) (i : Itm) : Prop := isG i = true ∧ depI i ≤ d
theorem ok_m_eq {f : Addr} {fd : FuncData} (F : FnP K "__eq__" "Mark.__eq__" s_Mark_eq_ f fd) (T : Town K mg C KC NC FC MC YC OC) (N : Nms mg) : FnOk P w K mg base CX0 1 f fd ["self", "other"] (spEq (RI FC MC YC KC NC HB isMp)) := by
  have nd := sc_Mark_eq_.nd
  refine F.ok sc_Mark_eq_ (fun vs H Q E h => ?_) (fun cdv A outer s H vs Q E hr h => ?_)
  · obtain ⟨a, b, rfl, _⟩ := h
    rfl
  · obtain ⟨a, b, rfl, ⟨i, hi, ha, hb⟩, q⟩ := h
    refine ⟨_, PSs.nox (pss_one (ps_ret (pe_and (pe_callB call_isi (by rfl) N.isi (by decide +kernel) (pa_cons (pv 1) (pa_cons (pe_glob (v := .ref MC) rfl T.gM rfl) pa_nil))) (pe_one (pe_cmpR op_eq (pe_fld (pv 0) rfl) (pe_fld (pv 1) rfl) (nomark _)))))), ?_⟩
    cases i with
    | fld n r => cases hi
    | grp ps => cases hi
    | mrk t =>
      obtain ⟨dxa, a1, _⟩ := ha
      obtain ⟨dxb, b1, _⟩ := id hb
      refine ⟨_, rfl, _, _, _, _, true, rfl, .own MC, ItmAt.ty T hb, T.own mM, true, rfl, iteT ?_⟩
      refine ⟨_, rfl, a, MC, dxa, _, _, rfl, a1, T.clM, T.nM, lk_hit, _, rfl, b, MC, dxb, _, _, rfl, b1, T.clM, T.nM, lk_hit, ?_⟩
      exact ⟨rfl, by simpa using q H (Same.refl H)⟩
theorem ok_f_eq {f fK : Addr} {fd fdK : FuncData} (F : FnP K "__eq__" "Field.__eq__" s_Field_eq_ f fd) (T : Town K mg C KC NC FC MC YC OC) (N : Nms mg) (MK : OpC K KC "__eq__" fK) (GK : FnOk P w K mg base CX0 4 fK fdK ["self", "other"] (spEq (RK KC))) (bK : Binds K fdK ["self", "other"] []) :
    FnOk P w K mg base CX0 5 f fd ["self", "other"] (spEq (RI FC MC YC KC NC HB isFp)) := by
  have nd := sc_Field_eq_.nd
  refine F.ok sc_Field_eq_ (fun vs H Q E h => ?_) (fun cdv A outer s H vs Q E hr h => ?_)
  · obtain ⟨a, b, rfl, _⟩ := h
    rfl
  · obtain ⟨a, b, rfl, ⟨i, hi, ha, hb⟩, q⟩ := h
    refine ⟨_, PSs.nox (pss_one (ps_ret (pe_and (pe_callB call_isi (by rfl) N.isi (by decide +kernel) (pa_cons (pv 1) (pa_cons (pe_glob (v := .ref FC) rfl T.gF rfl) pa_nil))) (pe_and (pe_cmpR op_eq (pe_fld (pv 0) rfl) (pe_fld (pv 1) rfl) (nomark _))
      (pe_one (pe_cmpR (r := rEqG (DIns KC (RK KC))) (op_eqG (rcG_ins GK MK.at_ MK.fn bK pass0) hr) (pe_fld (pv 0) rfl) (pe_fld (pv 1) rfl) (nomark _))))))), ?_⟩
    cases i with
    | mrk t => cases hi
    | grp ps => cases hi
    | fld n rows =>
      obtain ⟨dxa, ka, a1, a2, _⟩ := ha
      obtain ⟨dxb, kb, b1, b2, _⟩ := id hb
      refine ⟨_, rfl, _, _, _, _, true, rfl, .own FC, ItmAt.ty T hb, T.own mF, true, rfl, iteT ?_⟩
      refine ⟨_, rfl, a, FC, dxa, _, _, rfl, a1, T.clF, T.nF1, lk_hit, _, rfl, b, FC, dxb, _, _, rfl, b1, T.clF, T.nF1, lk_hit, rfl, ?_⟩
      refine ⟨_, rfl, ?_⟩
      refine (if_pos (decide_eq_true rfl)).mpr ?_
      have l1 := a2.lite
      have l2 := b2.lite
      obtain ⟨ea, ta, na, ra, k1, _⟩ := id l1
      obtain ⟨eb, tb, nb, rb, k2, _⟩ := id l2
      refine ⟨_, rfl, a, FC, dxa, _, _, rfl, a1, T.clF, T.nF2, (lk_ne (by decide +kernel)).trans lk_hit, _, rfl, b, FC, dxb, _, _, rfl, b1, T.clF, T.nF2, (lk_ne (by decide +kernel)).trans lk_hit, ?_⟩
      exact ⟨⟨ka, kb, ea, eb, _, _, rfl, rfl, k1, k2, rows, l1, l2⟩, fun H' e => q H' e⟩
/-- the same item, not deeper than d -/
def DItm (FC MC YC KC NC : Addr) (HB : Hp) (d : Nat) : Eqv := fun x y H => ∃ i a b, x = .ref a ∧ y = .ref b ∧ depI i ≤ d ∧ ItmAt FC MC YC KC NC HB H i a ∧ ItmAt FC MC YC KC NC HB H i b
theorem mon_itm (d : Nat) : Mon (DItm FC MC YC KC NC HB d) := fun x y H H' e h => by
  obtain ⟨i, a, b, hx, hy, hd, h1, h2⟩ := h
  exact ⟨i, a, b, hx, hy, hd, ItmAt.same e _ _ h1, ItmAt.same e _ _ h2⟩
def eqLv (d : Nat) : Nat := 5 + 2 * d
section
variable {X : Cx} {fF fM fY : Addr} {fdF fdM fdY : FuncData} {d : Nat}
theorem eqG_itm (BF : OpC X.K FC "__eq__" fF) (GF : FnOk X.prog X.w X.K X.mg X.base CX0 5 fF fdF ["self", "other"] (spEq (RI FC MC YC KC NC HB isFp))) (bF : Binds X.K fdF ["self", "other"] [])
    (BM : OpC X.K MC "__eq__" fM) (GM : FnOk X.prog X.w X.K X.mg X.base CX0 1 fM fdM ["self", "other"] (spEq (RI FC MC YC KC NC HB isMp))) (bM : Binds X.K fdM ["self", "other"] [])
    (BY : OpC X.K YC "__eq__" fY) (GY : FnOk X.prog X.w X.K X.mg X.base CX0 (eqLv d) fY fdY ["self", "other"] (spEq (RI FC MC YC KC NC HB (isGp d)))) (bY : Binds X.K fdY ["self", "other"] []) (p0 : Passes CX0 X E0) : EqG X (eqLv d) (DItm FC MC YC KC NC HB d) := by
  refine (((eqG_ins GF BF.at_ BF.fn bF p0).mono (by unfold eqLv; omega)).or (((eqG_ins GM BM.at_ BM.fn bM p0).mono (by unfold eqLv; omega)).or (eqG_ins GY BY.at_ BY.fn bY p0))).imp fun x y H h => ?_
  obtain ⟨i, a, b, rfl, rfl, hd, ha, hb⟩ := h
  cases i with
  | fld n rows =>
    obtain ⟨dxa, ka, a1, _⟩ := id ha
    obtain ⟨dxb, kb, b1, _⟩ := id hb
    exact .inl ⟨a, b, dxa, dxb, _, _, rfl, rfl, a1, b1, .fld n rows, (show isFp (.fld n rows) from rfl), ha, hb⟩
  | mrk t =>
    obtain ⟨dxa, a1, _⟩ := id ha
    obtain ⟨dxb, b1, _⟩ := id hb
    exact .inr (.inl ⟨a, b, dxa, dxb, _, _, rfl, rfl, a1, b1, .mrk t, (show isMp (.mrk t) from rfl), ha, hb⟩)
  | grp ps =>
    obtain ⟨dxa, pa, xa, a1, _⟩ := id ha
    obtain ⟨dxb, pb, xb, b1, _⟩ := id hb
    exact .inr (.inr ⟨a, b, dxa, dxb, _, _, rfl, rfl, a1, b1, _, ⟨rfl, hd⟩, ha, hb⟩)
end
theorem itms_eq {H : Hp} {ps : List Itm} {xs ys : List Addr} {d : Nat} (hd : depL ps ≤ d) (h1 : ItmsAt FC MC YC KC NC HB H ps xs) (h2 : ItmsAt FC MC YC KC NC HB H ps ys) : L2.Prs (DItm FC MC YC KC NC HB d) (xs.map V.ref) (ys.map V.ref) H := by
  refine ⟨by rw [List.length_map, List.length_map, h1.length, h2.length], fun j x y hx hy => ?_⟩
  obtain ⟨i, a, rfl, e1, _, _, ha⟩ := h1.elt hx
  obtain ⟨i2, b, rfl, e2, _, _, hb⟩ := h2.elt hy
  rw [e1] at e2
  cases e2
  exact ⟨i, a, b, rfl, rfl, Nat.le_trans (depL_le (List.mem_of_getElem? e1)) hd, ha, hb⟩
theorem ok_y_eq {f fF fM : Addr} {fd fdF fdM : FuncData} (F : FnP K "__eq__" "Maybe.__eq__" s_Maybe_eq_ f fd) (T : Town K mg C KC NC FC MC YC OC) (N : Nms mg) (BF : OpC K FC "__eq__" fF) (GF : FnOk P w K mg base CX0 5 fF fdF ["self", "other"] (spEq (RI FC MC YC KC NC HB isFp))) (bF : Binds K fdF ["self", "other"] [])
    (BM : OpC K MC "__eq__" fM) (GM : FnOk P w K mg base CX0 1 fM fdM ["self", "other"] (spEq (RI FC MC YC KC NC HB isMp))) (bM : Binds K fdM ["self", "other"] []) (BY : OpC K YC "__eq__" f) (bY : Binds K fd ["self", "other"] []) :
    ∀ d, FnOk P w K mg base CX0 (eqLv d) f fd ["self", "other"] (spEq (RI FC MC YC KC NC HB (isGp d)))
  | 0 => by
    have no : ∀ {i : Itm}, isGp 0 i → False := fun {i} h => by
      obtain ⟨h1, h2⟩ := h
      cases i with
      | fld n r => cases h1
      | mrk t => cases h1
      | grp ps =>
        have h2 : 1 + depL ps ≤ 0 := h2
        omega
    exact ⟨fun vs H Q E h => (by obtain ⟨_, _, _, ⟨_, h, _⟩, _⟩ := h; exact (no h).elim), fun A outer s H args us vs Q E _ _ _ _ h => (by obtain ⟨_, _, _, ⟨_, h, _⟩, _⟩ := h; exact (no h).elim)⟩
  | d + 1 => by
    have G := ok_y_eq F T N BF GF bF BM GM bM BY bY d
    have nd := sc_Maybe_eq_.nd
    refine F.ok sc_Maybe_eq_ (fun vs H Q E h => ?_) (fun cdv A outer s H vs Q E hr h => ?_)
    · obtain ⟨a, b, rfl, _⟩ := h
      rfl
    · obtain ⟨a, b, rfl, ⟨i, hi, ha, hb⟩, q⟩ := h
      refine ⟨_, PSs.nox (pss_one (ps_ret (pe_and (pe_callB call_isi (by rfl) N.isi (by decide +kernel) (pa_cons (pv 1) (pa_cons (pe_glob (v := .ref YC) rfl T.gY rfl) pa_nil)))
        (pe_one (pe_cmpR (r := rEqG (DTup K (DItm FC MC YC KC NC HB d))) (op_eqG (n := eqLv d + 1) (rcG_tup (mon_itm d) (eqG_itm BF GF bF BM GM bM BY G bY pass0)) hr) (pe_fld (pv 0) rfl) (pe_fld (pv 1) rfl) (nomark _)))))), ?_⟩
      cases i with
      | mrk t => cases hi.1
      | fld n r => cases hi.1
      | grp ps =>
        obtain ⟨dxa, pa, xa, a1, a2, a3, _⟩ := ha
        obtain ⟨dxb, pb, xb, b1, b2, b3, _⟩ := id hb
        have hd : 1 + depL ps ≤ d + 1 := hi.2
        refine ⟨_, rfl, _, _, _, _, true, rfl, .own YC, ItmAt.ty T hb, T.own mY, true, rfl, iteT ?_⟩
        refine ⟨_, rfl, a, YC, dxa, _, _, rfl, a1, T.clY, T.nY, lk_hit, _, rfl, b, YC, dxb, _, _, rfl, b1, T.clY, T.nY, lk_hit, ?_⟩
        exact ⟨⟨pa, pb, _, _, rfl, rfl, SqT.of a2, SqT.of b2, itms_eq (by omega) a3 b3⟩, fun H' e => q H' e⟩
/-- the same form -/
def RO (FC MC YC KC NC OC : Addr) (HB : Hp) : Addr → Addr → Hp → Prop := fun a b H => ∃ ls, FormAt FC MC YC KC NC OC HB H a ls ∧ FormAt FC MC YC KC NC OC HB H b ls
theorem ok_o_eq {f fF fM fY : Addr} {fd fdF fdM fdY : FuncData} (F : FnP K "__eq__" "Form.__eq__" s_Form_eq_ f fd) (T : Town K mg C KC NC FC MC YC OC) (N : Nms mg) (BF : OpC K FC "__eq__" fF) (GF : FnOk P w K mg base CX0 5 fF fdF ["self", "other"] (spEq (RI FC MC YC KC NC HB isFp))) (bF : Binds K fdF ["self", "other"] [])
    (BM : OpC K MC "__eq__" fM) (GM : FnOk P w K mg base CX0 1 fM fdM ["self", "other"] (spEq (RI FC MC YC KC NC HB isMp))) (bM : Binds K fdM ["self", "other"] []) (BY : OpC K YC "__eq__" fY) (GY : FnOk P w K mg base CX0 (eqLv 3) fY fdY ["self", "other"] (spEq (RI FC MC YC KC NC HB (isGp 3)))) (bY : Binds K fdY ["self", "other"] []) :
    FnOk P w K mg base CX0 14 f fd ["self", "other"] (spEq (RO FC MC YC KC NC OC HB)) := by
  have nd := sc_Form_eq_.nd
  refine F.ok sc_Form_eq_ (fun vs H Q E h => ?_) (fun cdv A outer s H vs Q E hr h => ?_)
  · obtain ⟨a, b, rfl, _⟩ := h
    rfl
  · obtain ⟨a, b, rfl, ⟨ls, ⟨dxa, ua, fa, na, ha, va, ya, a1, a2, _, _, _, _, ok⟩, ⟨dxb, ub, fb, nb, hb, vb, yb, b1, b2, _⟩⟩, q⟩ := h
    refine ⟨_, PSs.nox (pss_one (ps_ret (pe_and (pe_callB call_isi (by rfl) N.isi (by decide +kernel) (pa_cons (pv 1) (pa_cons (pe_glob (v := .ref OC) rfl T.gO rfl) pa_nil)))
      (pe_one (pe_cmpR (r := rEqG (DTup K (DTup K (DItm FC MC YC KC NC HB 3)))) (op_eqG (n := 13) (rcG_tup (mon_tup (mon_itm 3)) (eqG_tup (n := eqLv 3) (mon_itm 3) (eqG_itm BF GF bF BM GM bM BY GY bY pass0))) hr) (pe_fld (pv 0) rfl) (pe_fld (pv 1) rfl) (nomark _)))))), ?_⟩
    refine ⟨_, rfl, _, _, _, _, true, rfl, .own OC, (T.fam.sees OC mO).ty T.clO b1, T.own mO, true, rfl, iteT ?_⟩
    refine ⟨_, rfl, a, OC, dxa, _, _, rfl, a1, T.clO, T.nO1, lk_hit, _, rfl, b, OC, dxb, _, _, rfl, b1, T.clO, T.nO1, lk_hit, ?_⟩
    obtain ⟨ra, a3, la, ia⟩ := a2
    obtain ⟨rb, b3, lb, ib⟩ := b2
    refine ⟨⟨ua, ub, _, _, rfl, rfl, SqT.of a3, SqT.of b3, by rw [List.length_map, List.length_map, la, lb], fun j x y hx hy => ?_⟩, fun H' e => q H' e⟩
    rw [List.getElem?_map] at hx hy
    obtain ⟨r1, e1, rfl⟩ := Option.map_eq_some_iff.mp hx
    obtain ⟨r2, e2, rfl⟩ := Option.map_eq_some_iff.mp hy
    have hj : j < ls.length := by rw [← la]; exact (List.getElem?_eq_some_iff.mp e1).1
    have el : ls[j]? = some ls[j] := List.getElem?_eq_getElem hj
    obtain ⟨x1, x2, x3, _⟩ := ia j r1 _ e1 el
    obtain ⟨y1, y2, y3, _⟩ := ib j r2 _ e2 el
    have dp := ok.deep _ (List.getElem_mem hj)
    exact ⟨r1, r2, _, _, rfl, rfl, SqT.of x2, SqT.of y2, itms_eq (by omega) x3 y3⟩
end
end K14

set_option autoImplicit false
set_option maxErrors 4
namespace K14
open PySem PySem.Spec PyProof.Rows L2 Tl
/-! ### the names -/
abbrev strL (ns : List Str) : List V := ns.map V.str
theorem in_strs (z : Str) (ns : List Str) : inV (.str z) (strL ns) = decide (z ∈ ns) := by
  unfold inV
  rw [List.any_map, Bool.eq_iff_iff, List.any_eq_true, decide_eq_true_iff]
  constructor
  · rintro ⟨y, hy, e⟩
    have e2 : y = z := by simpa [eqV] using e
    rw [← e2]
    exact hy
  · intro h
    exact ⟨z, h, by simp [eqV]⟩
theorem flat_strs (ns : List Str) : (strL ns).all flatV = true := by
  rw [List.all_map]
  exact List.all_eq_true.mpr fun _ _ => rfl
def qs (j : Nat) : Str := tx (List.replicate j 113)
theorem qs_ok {j : Nat} (h1 : 1 ≤ j) (h2 : j ≤ 12) : NameOk (qs j) := by
  have e : (qs j).cps.toList = List.replicate j 113 := rfl
  have l : (qs j).cps.size = j := by
    rw [← Array.length_toList, e, List.length_replicate]
  refine ⟨by omega, by omega, fun c hc => ?_⟩
  rw [e] at hc
  rw [List.eq_of_mem_replicate hc]
  decide
theorem qs_inj {i j : Nat} (h : qs i = qs j) : i = j := by
  have := congrArg (fun z : Str => z.cps.toList.length) h
  simpa [qs, tx] using this
theorem az_at : ∀ d : Nat, d < 26 → ("abcdefghijklmnopqrstuvwxyz" : Str).cps.toList[d]? = some (97 + d) := by decide +kernel
section
variable {P : Program} {w : World} {K : PySem.W.Frag} {mg : Str → Option Value} {base : Heap}
def spNames : Sp := fun vs H Q _ => ∃ (b c : Addr) (m : Nat), vs = [.ref b, .int (m : Nat)] ∧ Bag H b c ∧ m ≤ 6 ∧ ∀ (p : Addr) (ns : List Str) (H' : Hp), Bag H' b c → Kept b c H H' → H p = none → p ≠ b → p ≠ c → H' p = some (.lst (strL ns)) → ns.length = m → ns.Nodup → (∀ z ∈ ns, NameOk z) → Q (.ref p) H'
set_option maxHeartbeats 20000000 in
theorem ok_names {f : Addr} {fd : FuncData} (F : FnP K "_law_names" "_law_names" s_l_names f fd) (N : Nms mg) (D : Can P w K mg base CX0 "_law_draw" ["_law_bag_here", "_law_limit"] 1 spDraw) : FnOk P w K mg base CX0 2 f fd ["_law_bag_here", "_law_many"] spNames := by
  obtain ⟨fD, fdD, GD, gD, kD, bD⟩ := D
  have nd := sc_l_names.nd
  refine F.ok sc_l_names (fun vs H Q E h => ?_) (fun cdv A outer s H vs Q E hr h => ?_)
  · obtain ⟨b, c, m, rfl, _⟩ := h
    rfl
  · obtain ⟨b, c, m, rfl, B, m6, q⟩ := h
    refine ⟨_, PSs.nox (pss_cons (ps_set (i := 2) nd rfl (.inr rfl) (pe_lst pa_nil))
      (pss_cons (ps_for PassesOwn.never rfl (pi_range1 rfl N.range (pa_cons (pv 1) pa_nil)) (pg_name (i := 3) nd rfl (.inl rfl))
        (pss_cons (ps_set (i := 4) nd rfl (.inl rfl) pe_str)
        (pss_cons (ps_for PassesOwn.never rfl (pi_range1 rfl N.range (pa_cons (pe_ix (r := rIxL K) ix_list (pe_lst (pa_cons pe_int (pa_cons pe_int (pa_cons pe_int (pa_cons pe_int pa_nil))))) (pe_call GD hr (by rfl) gD kD bD .nil pass0 (pa_cons (pv 0) (pa_cons pe_int pa_nil))) (fun _ _ => rfl)) pa_nil)) (pg_name (i := 5) nd rfl (.inl rfl))
          (pss_one (ps_set (i := 4) nd rfl (.inl rfl) (pe_op op_add_str (pv 4) (pe_ix ix_str pe_str (pe_call GD hr (by rfl) gD kD bD .nil pass0 (pa_cons (pv 0) (pa_cons pe_int pa_nil))) (fun _ _ => rfl))))))
        (C8.pss_cut (ps_if (pt_cmpR op_in_seq (pv 4) (pv 2) rfl) (pss_one (ps_set (i := 4) nd rfl (.inl rfl) (pe_ix (r := rIxL K) ix_list (pe_lc (own := [("_law_j", 5)]) (g := gName 5) rfl nd (pi_range2 rfl N.range (pa_cons pe_int (pa_cons pe_int pa_nil))) (blkOk_by (N := ["_law_bag_here", "_law_many", "_law_found", "_law_k", "_law_word", "_law_j"]) (sc := defScope s_l_names) (by decide +kernel)) (fun _ _ _ _ _ => pg_name (i := 5) nd rfl (Or.inl rfl))
            (fun _ _ _ _ _ => pts_one (pt_cmpR (r := rIn K true) op_notIn_seq (pe_op op_mulTx pe_str (pv 5)) (pv 2) rfl)) (fun _ _ _ _ _ => pe_op op_mulTx pe_str (pv 5))) pe_int (fun _ _ => rfl)))) pss_nil)
        (pss_one (ps_expr (pe_bm PySem.F.plainAttrs_list PySem.F.slot_list_append PySem.F.type_list_append mt_append (pv 2) (pa_cons (pv 4) pa_nil))))))))
      (pss_one (ps_ret (pv 2))))), ?_⟩
    refine ⟨Nat.zero_le _, fun L hL => ?_⟩
    have s1 := same_new (o := .lst []) hL
    have Lb := B.neB hL
    have Lc := B.neC hL
    refine name_go ?_
    dsimp only
    refine seq_go ?_
    refine ⟨_, rfl, (m : Nat), rfl, by omega, by omega, ?_⟩
    refine for_range (lo := 0) (n := ((m : Nat) : Int).toNat) (fun i σ H' => ∃ (x3 x4 x5 : Option V) (ns : List Str), σ = [some (.ref b), some (.int (m : Nat)), some (.ref L), x3, x4, x5] ∧ H' L = some (.lst (strL ns)) ∧ ns.length = i ∧ ns.Nodup ∧ (∀ z ∈ ns, NameOk z) ∧ Bag H' b c ∧ Kept b c H H')
      ⟨none, none, none, [], rfl, upd_same, rfl, List.nodup_nil, (fun z h => by cases h), B.same s1, Kept.of s1⟩ ?_ ?_
    · rintro i σ H1 hi ⟨x3, x4, x5, ns, rfl, e1, ln, nn, nok, B1, K1⟩
      rw [Int.toNat_natCast] at hi
      dsimp only
      refine seq_go (asg_go ?_)
      refine name_go ?_
      dsimp only
      refine seq_go ?_
      refine ⟨line_small (by show 4 ≤ 16777216; decide), fun l2 n2 => ?_⟩
      have s2 := same_new (o := .lst [.int 1, .int 2, .int 5, .int 12]) n2
      have B2 := B1.same s2
      refine ⟨_, rfl, b, c, 4, rfl, B2, by decide, by decide, fun d H2 d0 d4 B3 K3 => ?_⟩
      obtain ⟨t, at_, t1, t12⟩ : ∃ t : Nat, atI [V.int 1, .int 2, .int 5, .int 12] d = some (.int (t : Nat)) ∧ 1 ≤ t ∧ t ≤ 12 := by
        have cs : d = 0 ∨ d = 1 ∨ d = 2 ∨ d = 3 := by omega
        rcases cs with rfl | rfl | rfl | rfl
        · exact ⟨1, rfl, by decide, by decide⟩
        · exact ⟨2, rfl, by decide, by decide⟩
        · exact ⟨5, rfl, by decide, by decide⟩
        · exact ⟨12, rfl, by decide, by decide⟩
      have e2 := K3 _ _ (s2 _ _ e1) Lb Lc
      have K02 : Kept b c H H2 := (K1.trans (Kept.of s2)).trans K3
      refine ⟨l2, _, d, _, rfl, rfl, SqL.of (K3 _ _ upd_same (B1.neB n2) (B1.neC n2)), at_, t, rfl, by omega, by omega, ?_⟩
      refine for_range (lo := 0) (n := ((t : Nat) : Int).toNat) (fun j σ H' => ∃ (y5 : Option V) (l : List Nat), σ = [some (.ref b), some (.int (m : Nat)), some (.ref L), some (.int (0 + (i : Int))), some (.str (tx l)), y5] ∧ l.length = j ∧ (∀ c ∈ l, 97 ≤ c ∧ c ≤ 122) ∧ H' L = some (.lst (strL ns)) ∧ Bag H' b c ∧ Kept b c H H')
        ⟨x5, [], rfl, rfl, (fun c h => by cases h), e2, B3, K02⟩ ?_ ?_
      · rintro j σ H3 hj ⟨y5, l, rfl, ll, lok, e3, B4, K4⟩
        rw [Int.toNat_natCast] at hj
        dsimp only
        refine asg_go ?_
        refine ⟨_, rfl, _, rfl, b, c, 26, rfl, B4, by decide, by decide, fun d2 H4 d20 d26 B5 K5 => ?_⟩
        obtain ⟨d2, rfl⟩ := Int.eq_ofNat_of_zero_le d20
        have ga := az_at d2 (by omega)
        have ge : atI ("abcdefghijklmnopqrstuvwxyz" : Str).cps.toList ((d2 : Nat) : Int) = some (97 + d2) := atI_nat ga
        refine ⟨_, _, _, rfl, rfl, line_small (by decide), ge, _, _, rfl, rfl, ?_, ?_⟩
        · have : (tx l).length = l.length := rfl
          have : (⟨#[97 + d2]⟩ : Str).length = 1 := rfl
          exact line_small (by omega)
        · refine name_go ?_
          dsimp only
          have ap : (tx l ++ (⟨#[97 + d2]⟩ : Str)) = tx (l ++ [97 + d2]) := tx_app l [97 + d2]
          rw [ap]
          refine ⟨_, l ++ [97 + d2], rfl, by rw [List.length_append, ll]; rfl, fun c hc => ?_, K5 _ _ e3 Lb Lc, B5, K4.trans K5⟩
          · rcases List.mem_append.mp hc with hc | hc
            · exact lok c hc
            · rw [List.mem_singleton.mp hc]
              exact ⟨by omega, by omega⟩
      · rintro σ H3 ⟨y5, l, rfl, ll, lok, e3, B4, K4⟩
        rw [Int.toNat_natCast] at ll
        have lz : (tx l).cps.size = l.length := rfl
        have wok : NameOk (tx l) := ⟨by omega, by omega, fun c hc => lok c hc⟩
        refine ⟨fun σ' H' => ∃ (y5 : Option V) (z : Str), σ' = [some (.ref b), some (.int (m : Nat)), some (.ref L), some (.int (0 + (i : Int))), some (.str z), y5] ∧ NameOk z ∧ z ∉ ns ∧ H' L = some (.lst (strL ns)) ∧ Bag H' b c ∧ Kept b c H H', ?_, ?_⟩
        · refine ⟨_, rfl, _, rfl, L, _, rfl, .inl (SqL.of e3), rfl, flat_strs ns, _, rfl, ?_⟩
          refine ite2 (fun e => ?_) fun e => ⟨y5, tx l, rfl, wok, fun h => e (by show (if false = true then !inV (.str (tx l)) (strL ns) else inV (.str (tx l)) (strL ns)) = true; rw [if_neg (by decide), in_strs, decide_eq_true h]), e3, B4, K4⟩
          refine asg_go ?_
          refine ⟨1, 13, rfl, ⟨by decide, by decide, by decide, by decide⟩, fun D hD => ?_⟩
          refine lc_range (lo := 1) (n := 12) (fun i H' => H' D = some (.lst (strL (((List.range i).map fun j => qs (1 + j)).filter fun z => decide (z ∉ ns)))) ∧ Same H3 H') ⟨upd_same, same_new hD⟩ ?_ ?_
          · rintro k H4 hk ⟨e4, sm⟩
            refine ⟨rfl, ?_⟩
            have ek : (1 : Int) + (k : Int) = ((1 + k : Nat) : Int) := by omega
            rw [ek]
            have eq : (List.replicate (1 + k) [113]).flatten = List.replicate (1 + k) 113 := by
              induction (1 + k) with
              | zero => rfl
              | succ n ih => rw [List.replicate_succ, List.replicate_succ, List.flatten_cons, ih]; rfl
            have nx : (((List.range (k + 1)).map fun j => qs (1 + j)).filter fun z => decide (z ∉ ns)) = (((List.range k).map fun j => qs (1 + j)).filter fun z => decide (z ∉ ns)) ++ if qs (1 + k) ∉ ns then [qs (1 + k)] else [] := by
              rw [List.range_succ, List.map_append, List.filter_append]
              congr 1
              by_cases z : qs (1 + k) ∈ ns <;> simp [z]
            refine ⟨_, rfl, [113], 1 + k, rfl, rfl, by omega, by show 1 * (1 + k) ≤ 16777216; omega, ?_⟩
            rw [eq]
            show _
            refine ⟨_, rfl, L, _, rfl, .inl (SqL.of (sm _ _ e3)), rfl, flat_strs ns, ?_⟩
            have ev : (if true = true then !inV (.str (tx (List.replicate (1 + k) 113))) (strL ns) else inV (.str (tx (List.replicate (1 + k) 113))) (strL ns)) = decide (qs (1 + k) ∉ ns) := by
              rw [if_pos rfl, in_strs]
              show (!decide (qs (1 + k) ∈ ns)) = _
              by_cases z : qs (1 + k) ∈ ns <;> simp [z]
            rw [ev]
            refine ⟨_, rfl, ?_⟩
            by_cases hz : qs (1 + k) ∈ ns
            · rw [decide_eq_false (fun h => h hz)]
              refine (if_neg (by decide)).mpr ⟨?_, sm⟩
              rw [nx, if_neg (fun h => h hz), List.append_nil]
              exact e4
            · rw [decide_eq_true hz]
              refine (if_pos rfl).mpr ?_
              refine ⟨_, rfl, [113], 1 + k, rfl, rfl, by omega, by show 1 * (1 + k) ≤ 16777216; omega, ?_⟩
              rw [eq]
              refine ⟨_, e4, ?_, ?_, fun b o z => ?_⟩
              · rw [List.length_map]
                have l1 := List.length_filter_le (fun z => decide (z ∉ ns)) ((List.range k).map fun j => qs (1 + j))
                rw [List.length_map, List.length_range] at l1
                exact small1000 (by omega)
              · rw [upd_same, nx, if_pos hz]
                unfold strL
                rw [List.map_append]
                rfl
              · rw [upd_ne (ne_of_none z hD)]
                exact sm _ _ z
          · rintro H4 ⟨e4, sm⟩
            have big : (((List.range 12).map fun j => qs (1 + j)).filter fun z => decide (z ∉ ns)) ≠ [] := fun h => by
              have all : ∀ z ∈ ((List.range 12).map fun j => qs (1 + j)), z ∈ ns := fun z hz => by
                have w := List.filter_eq_nil_iff.mp h z hz
                simpa using w
              have nd : ((List.range 12).map fun j => qs (1 + j)).Nodup := List.Pairwise.map _ (fun a b (h : a ≠ b) e => h (by have := qs_inj e; omega)) List.nodup_range
              have := few_keys nd all
              rw [List.length_map, List.length_range] at this
              omega
            obtain ⟨z, r, ez⟩ := List.exists_cons_of_ne_nil big
            have mz : z ∈ (((List.range 12).map fun j => qs (1 + j)).filter fun z => decide (z ∉ ns)) := by rw [ez]; exact List.mem_cons_self
            obtain ⟨m1, m2⟩ := List.mem_filter.mp mz
            obtain ⟨j, hj, rfl⟩ := List.mem_map.mp m1
            have hj := List.mem_range.mp hj
            rw [ez] at e4
            refine ⟨D, _, 0, .str (qs (1 + j)), rfl, rfl, SqL.of e4, atI_nat (j := 0) rfl, ?_⟩
            refine name_go ?_
            dsimp only
            exact ⟨_, qs (1 + j), rfl, qs_ok (by omega) (by omega), by simpa using m2, sm _ _ e3, B4.same sm, K4.trans (Kept.of sm)⟩
        · rintro σ' H4 ⟨y5, z, rfl, zok, zn, e4, B5, K5⟩
          refine ⟨.ref L, rfl, .inl ⟨rfl, _, SqL.of e4⟩, _, rfl, L, _, _, rfl, rfl, e4, ?_, ?_⟩
          · rw [List.length_map]
            exact small1000 (by omega)
          refine ⟨_, _, _, ns ++ [z], rfl, ?_, by rw [List.length_append, ln]; rfl, ?_, fun y hy => ?_, ?_, fun x o e nb nc => ?_⟩
          · rw [upd_same]
            unfold strL
            rw [List.map_append]
            rfl
          · exact List.nodup_append.mpr ⟨nn, List.pairwise_singleton _ _, fun a ha y hy e => zn (by rw [List.mem_singleton.mp hy] at e; rw [← e]; exact ha)⟩
          · rcases List.mem_append.mp hy with hy | hy
            · exact nok y hy
            · rw [List.mem_singleton.mp hy]
              exact zok
          · obtain ⟨⟨u1, u2, u3, u4⟩, ⟨u5, u6⟩⟩ := B5
            exact ⟨⟨u1, u2, u3, by rw [upd_ne (Ne.symm Lb)]; exact u4⟩, ⟨u5, by rw [upd_ne (Ne.symm Lc)]; exact u6⟩⟩
          · rw [upd_ne (ne_of_none e hL)]
            exact K5 x o e nb nc
    · rintro σ H1 ⟨x3, x4, x5, ns, rfl, e1, ln, nn, nok, B1, K1⟩
      rw [Int.toNat_natCast] at ln
      exact ⟨_, rfl, q L ns H1 B1 K1 hL Lb Lc e1 ln nn nok⟩
end
end K14

set_option autoImplicit false
set_option maxErrors 4
namespace K14
open PySem PySem.Spec PyProof.Rows L2 Tl
/-! ### the places of a drawn kind -/
theorem side_chars (ns : List LNet) : ∀ acc : LNet, (ns.foldl sideStep acc).chars = acc.chars ++ ns.flatMap (·.chars) := by
  induction ns with
  | nil => exact fun acc => (List.append_nil _).symm
  | cons n ns ih =>
    intro acc
    rw [List.foldl_cons, ih, List.flatMap_cons, ← List.append_assoc]
    rfl
theorem kind_chars (rows : List RowL) : (kindN rows).chars = rows.flatMap fun r => r.flatMap fun x => List.replicate (pcL x.2.1 x.2.2) x.1 := by
  show ((rows.map altN).foldl sideStep side0).chars = _
  rw [side_chars]
  show [] ++ _ = _
  rw [List.nil_append, List.flatMap_map]
  congr 1
  funext r
  show ((r.map runN).foldl chainStep chain0).chars = _
  rw [chain_chars]
  show [] ++ _ = _
  rw [List.nil_append, List.flatMap_map]
  rfl
theorem kind_chars_len (rows : List RowL) : (kindN rows).chars.length = (rows.flatMap placesR).sum := by
  rw [kind_chars]
  induction rows with
  | nil => rfl
  | cons r rs ih =>
    rw [List.flatMap_cons, List.flatMap_cons, List.length_append, List.sum_append, ih]
    congr 1
    unfold placesR
    induction r with
    | nil => rfl
    | cons x r ih2 =>
      rw [List.flatMap_cons, List.length_append, List.length_replicate, ih2]
      rfl
/-- drawn alternatives -/
structure Drawn (rows : List RowL) : Prop where
  lo : 1 ≤ rows.length
  hi : rows.length ≤ 2
  ok : ∀ r ∈ rows, ∃ ls, RowS ls r
theorem Drawn.g {rows : List RowL} (h : Drawn rows) : ∀ r ∈ rows, RowG 12 r := fun r hr => by
  obtain ⟨ls, hs⟩ := h.ok r hr
  exact hs.g
theorem Drawn.len {rows : List RowL} (h : Drawn rows) : (kindN (onceL rows)).chars.length ≤ 24 := by
  rw [kind_chars_len]
  have z := flat_le (B := 12) (rows := onceL rows) fun r hr => h.g r (onceL_sub r hr)
  have l := onceL_len rows
  have := h.hi
  have : (onceL rows).length * 12 ≤ 2 * 12 := Nat.mul_le_mul_right 12 (by omega)
  omega
theorem side_ok : ∀ (ns : List LNet) (acc : LNet), acc.Ok → (∀ n ∈ ns, n.Ok) → acc.chars.length + charsOf ns ≤ 1000 → (ns.foldl sideStep acc).Ok
  | [], acc, h, _, _ => h
  | n :: ns, acc, h, hn, l => by
    have c : charsOf (n :: ns) = n.chars.length + charsOf ns := by unfold charsOf; simp
    rw [c] at l
    refine side_ok ns _ (sideStep_ok h (hn n List.mem_cons_self) (by omega)) (fun m hm => hn m (List.mem_cons_of_mem _ hm)) ?_
    show (acc.chars ++ n.chars).length + charsOf ns ≤ 1000
    rw [List.length_append]
    omega
theorem rowF_zero : ∀ {r : RowL}, RowF r [] → ∀ x ∈ r, x.2.1 = 0
  | [], _, x, h => by cases h
  | y :: rs, h, x, hx => by
    obtain ⟨u, v, e, hu, hv⟩ := h
    obtain ⟨eu, ev⟩ := List.append_eq_nil_iff.mp e.symm
    subst eu ev
    rcases List.mem_cons.mp hx with e2 | hx
    · rw [e2]
      have z : y.2.1 ≤ 0 := hu.2.1
      omega
    · exact rowF_zero hv x hx
theorem Drawn.net {rows : List RowL} (h : Drawn rows) : (kindN (onceL rows)).Ok ∧ (kindN (onceL rows)).chars ≠ [] ∧ 1 &&& (kindN (onceL rows)).exits = 0 := by
  have g := h.g
  have sub := onceL_sub (rows := rows)
  refine ⟨?_, fun e => ?_, ?_⟩
  · refine side_ok _ _ side0_ok (fun n hn => ?_) ?_
    · obtain ⟨r, hr, rfl⟩ := List.mem_map.mp hn
      have gr := g r (sub r hr)
      exact (altN_ok (fun x hx => (gr.all x hx).ok) (by have := gr.pl; omega)).1
    · have e : charsOf ((onceL rows).map altN) = (kindN (onceL rows)).chars.length := by
        show _ = (((onceL rows).map altN).foldl sideStep side0).chars.length
        rw [side_chars]
        show _ = ([] ++ _).length
        rw [List.nil_append, List.length_flatMap]
        rfl
      rw [e]
      have := h.len
      show 0 + _ ≤ 1000
      omega
  · have ne : onceL rows ≠ [] := onceL_ne fun z => by have := h.lo; rw [z] at this; cases this
    obtain ⟨r, q, er⟩ := List.exists_cons_of_ne_nil ne
    have mr : r ∈ onceL rows := by rw [er]; exact List.mem_cons_self
    have gr := g r (sub r mr)
    obtain ⟨x, t, ex⟩ := List.exists_cons_of_ne_nil gr.ne
    have mx : x ∈ r := by rw [ex]; exact List.mem_cons_self
    have top := (gr.all x mx).top
    have pos : pcL x.2.1 x.2.2 ≠ 0 := fun z => by
      unfold pcL at z
      cases em : x.2.2 with
      | none =>
        rw [em] at z
        have : Nat.max x.2.1 1 = 0 := z
        have := Nat.le_max_right x.2.1 1
        have : 1 ≤ Nat.max x.2.1 1 := this
        omega
      | some k =>
        rw [em] at z
        have : k = 0 := z
        have := (top k em).2.1
        omega
    have : x.1 ∈ (kindN (onceL rows)).chars := by
      rw [kind_chars]
      exact List.mem_flatMap.mpr ⟨r, mr, List.mem_flatMap.mpr ⟨x, mx, List.mem_replicate.mpr ⟨pos, rfl⟩⟩⟩
    rw [e] at this
    cases this
  · have bnd : ∀ r ∈ onceL rows, ∀ x ∈ r, BndOk x := fun r hr x hx n e => (((g r (sub r hr)).all x hx).top n e).1
    have z := kind_takes bnd []
    by_cases y : 1 &&& (kindN (onceL rows)).exits = 0
    · exact y
    · obtain ⟨r, hr, hf⟩ := z.mp y
      obtain ⟨ls, hs⟩ := h.ok r (sub r hr)
      obtain ⟨x, hx, lo⟩ := hs.one
      have := rowF_zero hf x hx
      omega
end K14

set_option autoImplicit false
set_option maxErrors 4
namespace K14
open PySem PySem.Spec PyProof.Rows L2 Tl
/-! ### rows of drawn items -/
inductive Raw
  | f (n : Str) (rows : List RowL)
  | m (t : Str)
  | o (ps : List Raw)
mutual
def nmR : Raw → List Str
  | .f n _ => [n]
  | .m _ => []
  | .o ps => nmRs ps
def nmRs : List Raw → List Str
  | [] => []
  | r :: q => nmR r ++ nmRs q
end
mutual
def toI : Raw → Itm
  | .f n rows => .fld n (onceL rows)
  | .m t => .mrk t
  | .o ps => .grp (joinJ (toIs ps))
def toIs : List Raw → List Itm
  | [] => []
  | r :: q => toI r :: toIs q
end
mutual
def RawOk : Raw → Prop
  | .f n rows => NameOk n ∧ Drawn rows
  | .m t => MarkOk t
  | .o ps => RawsOk ps ∧ ownF (toIs ps) = true ∧ ps.length ≤ 4
def RawsOk : List Raw → Prop
  | [] => True
  | r :: q => RawOk r ∧ RawsOk q
end
section
variable (HB H : Hp)
mutual
def RawAt : Raw → Addr → Prop
  | .f n rows, a => ∃ R rs, H a = some (.tup [.str "f", .str n, .ref R]) ∧ HB R = none ∧ H R = some (.lst (rowsV rs)) ∧ RowsAt H rs ∧ rs.map (·.1) = rows
  | .m t, a => H a = some (.tup [.str "m", .str t])
  | .o ps, a => ∃ l xs, H a = some (.tup [.str "o", .ref l]) ∧ HB l = none ∧ H l = some (.lst (xs.map V.ref)) ∧ RawsAt ps xs
def RawsAt : List Raw → List Addr → Prop
  | [], xs => xs = []
  | r :: q, xs => ∃ a as, xs = a :: as ∧ RawAt r a ∧ RawsAt q as
end
end
/-- all that is not in HB stands, and the tuples -/
structure Over (HB H H' : Hp) : Prop where
  new : ∀ x o, HB x = none → H x = some o → H' x = some o
  tup : ∀ x xs, H x = some (.tup xs) → H' x = some (.tup xs)
section
variable {HB HC H H' : Hp}
mutual
theorem RawAt.over (s : Over HB H H') : ∀ (r : Raw) (a : Addr), RawAt HB H r a → RawAt HB H' r a
  | .f n rows, a, h => by
    obtain ⟨R, rs, h1, h2, h3, h4, h5⟩ := h
    exact ⟨R, rs, s.tup _ _ h1, h2, s.new _ _ h2 h3, h4.tups s.tup, h5⟩
  | .m t, a, h => s.tup _ _ h
  | .o ps, a, h => by
    obtain ⟨l, xs, h1, h2, h3, h4⟩ := h
    exact ⟨l, xs, s.tup _ _ h1, h2, s.new _ _ h2 h3, RawsAt.over s ps xs h4⟩
theorem RawsAt.over (s : Over HB H H') : ∀ (ps : List Raw) (xs : List Addr), RawsAt HB H ps xs → RawsAt HB H' ps xs
  | [], xs, h => h
  | r :: q, xs, h => by
    obtain ⟨a, as, e, h1, h2⟩ := h
    exact ⟨a, as, e, RawAt.over s r a h1, RawsAt.over s q as h2⟩
end
mutual
theorem RawAt.from (s : ∀ x, HC x = none → HB x = none) : ∀ (r : Raw) (a : Addr), RawAt HC H r a → RawAt HB H r a
  | .f n rows, a, h => by
    obtain ⟨R, rs, h1, h2, h3⟩ := h
    exact ⟨R, rs, h1, s _ h2, h3⟩
  | .m t, a, h => h
  | .o ps, a, h => by
    obtain ⟨l, xs, h1, h2, h3, h4⟩ := h
    exact ⟨l, xs, h1, s _ h2, h3, RawsAt.from s ps xs h4⟩
theorem RawsAt.from (s : ∀ x, HC x = none → HB x = none) : ∀ (ps : List Raw) (xs : List Addr), RawsAt HC H ps xs → RawsAt HB H ps xs
  | [], xs, h => h
  | r :: q, xs, h => by
    obtain ⟨a, as, e, h1, h2⟩ := h
    exact ⟨a, as, e, RawAt.from s r a h1, RawsAt.from s q as h2⟩
end
theorem over_same (s : Same H H') : Over HB H H' := ⟨fun x o _ e => s x o e, fun x xs e => s x _ e⟩
theorem Over.trans {H2 : Hp} (a : Over HB H H') (b : Over HB H' H2) : Over HB H H2 := ⟨fun x o n e => b.new x o n (a.new x o n e), fun x xs e => b.tup x xs (a.tup x xs e)⟩
theorem RawsAt.length : ∀ {ps : List Raw} {xs : List Addr}, RawsAt HB H ps xs → xs.length = ps.length
  | [], xs, h => by
    rw [show xs = [] from h]
    rfl
  | r :: q, xs, h => by
    obtain ⟨a, as, e, h1, h2⟩ := h
    rw [e, List.length_cons, List.length_cons, RawsAt.length h2]
theorem RawsAt.app : ∀ {ps qs : List Raw} {xs ys : List Addr}, RawsAt HB H ps xs → RawsAt HB H qs ys → RawsAt HB H (ps ++ qs) (xs ++ ys)
  | [], qs, xs, ys, h, h2 => by
    rw [show xs = [] from h]
    exact h2
  | r :: q, qs, xs, ys, h, h2 => by
    obtain ⟨a, as, e, h1, h3⟩ := h
    rw [e]
    exact ⟨a, as ++ ys, rfl, h1, RawsAt.app h3 h2⟩
theorem RawsAt.one {r : Raw} {a : Addr} (h : RawAt HB H r a) : RawsAt HB H [r] [a] := ⟨a, [], rfl, h, rfl⟩
end
theorem nmRs_app : ∀ ps qs : List Raw, nmRs (ps ++ qs) = nmRs ps ++ nmRs qs
  | [], qs => rfl
  | r :: q, qs => by
    show nmR r ++ nmRs (q ++ qs) = (nmR r ++ nmRs q) ++ nmRs qs
    rw [nmRs_app q qs, List.append_assoc]
theorem toIs_app : ∀ ps qs : List Raw, toIs (ps ++ qs) = toIs ps ++ toIs qs
  | [], qs => rfl
  | r :: q, qs => by
    show toI r :: toIs (q ++ qs) = (toI r :: toIs q) ++ toIs qs
    rw [toIs_app q qs]
    rfl
theorem rawsOk_app : ∀ {ps qs : List Raw}, RawsOk ps → RawsOk qs → RawsOk (ps ++ qs)
  | [], qs, _, h => h
  | r :: q, qs, h, h2 => ⟨h.1, rawsOk_app h.2 h2⟩
theorem toIs_map : ∀ ps : List Raw, toIs ps = ps.map toI
  | [] => rfl
  | r :: q => by
    show toI r :: toIs q = _
    rw [toIs_map q]
    rfl
theorem siz_raws : ∀ {ps : List Raw}, (∀ r ∈ ps, sizI (toI r) ≤ 2 + 28 * (nmR r).length) → sizL (toIs ps) ≤ 2 * ps.length + 28 * (nmRs ps).length
  | [], _ => Nat.le_refl _
  | r :: q, h => by
    have h1 := h r List.mem_cons_self
    have h2 := siz_raws fun x hx => h x (List.mem_cons_of_mem _ hx)
    show sizI (toI r) + sizL (toIs q) ≤ 2 * (q.length + 1) + 28 * (nmR r ++ nmRs q).length
    rw [List.length_append]
    omega
theorem sizL_app (as bs : List Itm) : sizL (as ++ bs) = sizL as + sizL bs := by
  rw [← hldL_len, hldL_app, List.length_append, hldL_len, hldL_len]
/-- what is known of an item of a row: how deep, how large -/
def FitR (n : Nat) (r : Raw) : Prop := depI (toI r) ≤ n ∧ sizI (toI r) ≤ 2 + 28 * (nmR r).length
/-- what a row is drawn from -/
structure Env3 (b c p nl : Addr) (ls : List Nat) (ns : List Str) (H : Hp) : Prop where
  bag : Bag H b c
  row : H p = some (.lst (lettersV ls))
  nms : H nl = some (.lst (strL ns))
  pb : p ≠ b
  pc : p ≠ c
  pn : p ≠ nl
  nb : nl ≠ b
  nc : nl ≠ c
  len : ls.length = 3
  nd : ls.Nodup
  sub : ∀ n ∈ ls, n ∈ alpha
  nok : ∀ z ∈ ns, NameOk z
  few : ns.length ≤ 6
def Kept3 (b c nl : Addr) (H H' : Hp) : Prop := ∀ x o, H x = some o → x ≠ b → x ≠ c → x ≠ nl → H' x = some o
theorem Kept3.trans {b c nl : Addr} {H H1 H2 : Hp} (h : Kept3 b c nl H H1) (k : Kept3 b c nl H1 H2) : Kept3 b c nl H H2 := fun x o e n1 n2 n3 => k x o (h x o e n1 n2 n3) n1 n2 n3
theorem Kept.three {b c nl : Addr} {H H' : Hp} (h : Kept b c H H') : Kept3 b c nl H H' := fun x o e n1 n2 _ => h x o e n1 n2
section
variable {P : Program} {w : World} {K : PySem.W.Frag} {mg : Str → Option Value} {base : Heap}
def spRowR (n : Nat) : Sp := fun vs H Q _ => ∃ (b c p nl : Addr) (ls : List Nat) (ns : List Str), vs = [.ref b, .ref p, .ref nl, .int ((3 : Int) - (n : Int))] ∧ n ≤ 3 ∧ Env3 b c p nl ls ns H ∧
  ∀ (R : Addr) (ps : List Raw) (xs : List Addr) (ns' : List Str) (H' : Hp), Env3 b c p nl ls ns' H' → Kept3 b c nl H H' → H R = none → H' R = some (.lst (xs.map V.ref)) → RawsAt H H' ps xs → 1 ≤ ps.length → ps.length ≤ 3 → RawsOk ps → (nmRs ps ++ ns').Perm ns → (∀ r ∈ ps, FitR n r) → Q (.ref R) H'
/-- ("f", names.pop(0), _law_rows(bag, letters[:2])) -/
def tF (K : PySem.W.Frag) : TE := tTup (tCons (tC (V.str "f")) (tCons (tBM K "list" rPopAt (tVar 2) (tCons (tC (.int 0)) tNil)) (tCons (tCall spRowsD [] E0 (tCons (tVar 0) (tCons (tSl (rSlL K) (tVar 1) tNoPart (tPart (tC (V.int 2)))) tNil))) tNil)))
theorem Env3.same {b c p nl : Addr} {ls : List Nat} {ns : List Str} {H H' : Hp} (e : Env3 b c p nl ls ns H) (s : Same H H') : Env3 b c p nl ls ns H' := ⟨e.bag.same s, s _ _ e.row, s _ _ e.nms, e.pb, e.pc, e.pn, e.nb, e.nc, e.len, e.nd, e.sub, e.nok, e.few⟩
theorem Env3.kept {b c p nl : Addr} {ls : List Nat} {ns : List Str} {H H' : Hp} (e : Env3 b c p nl ls ns H) (B : Bag H' b c) (k : Kept b c H H') : Env3 b c p nl ls ns H' := ⟨B, k _ _ e.row e.pb e.pc, k _ _ e.nms e.nb e.nc, e.pb, e.pc, e.pn, e.nb, e.nc, e.len, e.nd, e.sub, e.nok, e.few⟩
theorem mk_f {b c p nl : Addr} {ls : List Nat} {n0 : Str} {ns : List Str} {σ : L2.St} {H : Hp} {Q : VK} (h0 : σ[0]? = some (some (.ref b))) (h1 : σ[1]? = some (some (.ref p))) (h2 : σ[2]? = some (some (.ref nl))) (En : Env3 b c p nl ls (n0 :: ns) H)
    (q : ∀ (t : Addr) (rows : List RowL) (H' : Hp), Env3 b c p nl ls ns H' → Kept3 b c nl H H' → H t = none → RawAt H H' (.f n0 rows) t → RawOk (.f n0 rows) → FitR 0 (.f n0 rows) → Q (.ref t) H') : tF K σ H Q := by
  have nlp : nl ≠ p := Ne.symm En.pn
  refine ⟨.ref nl, h2, .inl ⟨rfl, _, SqL.of En.nms⟩, nl, _, 0, 0, .str n0, rfl, rfl, En.nms, by decide, by decide, seq0 _, rfl, ?_⟩
  have ee : (strL (n0 :: ns)).eraseIdx 0 = strL ns := rfl
  rw [ee]
  have En1 : Env3 b c p nl ls ns (upd H nl (.lst (strL ns))) := ⟨by
    obtain ⟨⟨u1, u2, u3, u4⟩, ⟨u5, u6⟩⟩ := En.bag
    exact ⟨⟨u1, u2, u3, by rw [upd_ne (Ne.symm En.nb)]; exact u4⟩, ⟨u5, by rw [upd_ne (Ne.symm En.nc)]; exact u6⟩⟩, by rw [upd_ne En.pn]; exact En.row, upd_same, En.pb, En.pc, En.pn, En.nb, En.nc, En.len, En.nd, En.sub, fun z hz => En.nok z (List.mem_cons_of_mem _ hz), by have := En.few; rw [List.length_cons] at this; omega⟩
  have k1 : Kept3 b c nl H (upd H nl (.lst (strL ns))) := fun x o e _ _ n3 => by
    rw [upd_ne n3]
    exact e
  have f1 : ∀ x, (upd H nl (.lst (strL ns))) x = none → H x = none := fun x hx => by
    by_cases e : x = nl
    · rw [e, upd_same] at hx
      cases hx
    · rw [upd_ne e] at hx
      exact hx
  generalize upd H nl (.lst (strL ns)) = H1 at En1 k1 f1 ⊢
  refine ⟨_, h0, _, h1, 2, rfl, p, _, rfl, SqL.of En1.row, fun sl hsl => ?_⟩
  have ec : cutV (lettersV ls) none (some ((2 : Nat) : Int)) = lettersV (ls.take 2) := by
    rw [cut_take]
    unfold lettersV
    rw [List.map_take]
  have ec2 : cutV (lettersV ls) none (some 2) = lettersV (ls.take 2) := ec
  rw [ec2]
  have s2 := same_new (o := .lst (lettersV (ls.take 2))) hsl
  have tw : Two b c sl (ls.take 2) (upd H1 sl (.lst (lettersV (ls.take 2)))) := ⟨En1.bag.same s2, upd_same, En1.bag.neB hsl, En1.bag.neC hsl, by rw [List.length_take, En1.len]; rfl, En1.nd.sublist (List.take_sublist _ _), fun n hn => En1.sub n (List.mem_of_mem_take hn)⟩
  have En2 := En1.same s2
  refine ⟨b, c, sl, ls.take 2, rfl, tw, fun R rs H3 B3 K3 hR Rb Rc eR aR l1 l2 rok => ?_⟩
  have En3 := En2.kept B3 K3
  refine ⟨line_small (by show 3 ≤ 16777216; decide), fun t nt => ?_⟩
  have s4 := same_new (o := .tup [.str "f", .str n0, .ref R]) nt
  have kk : Kept3 b c nl H (upd H3 t (.tup [.str "f", .str n0, .ref R])) := fun x o e n1 n2 n3 => s4 _ _ (K3 _ _ (s2 _ _ (k1 _ _ e n1 n2 n3)) n1 n2)
  have ft : H t = none := by
    cases e : H t with
    | none => rfl
    | some o =>
      exfalso
      have nb : t ≠ b := En3.bag.neB nt
      have nc : t ≠ c := En3.bag.neC nt
      have nn : t ≠ nl := Ne.symm (ne_of_none En3.nms nt)
      have z := K3 _ _ (s2 _ _ (k1 _ _ e nb nc nn)) nb nc
      rw [nt] at z
      cases z
  refine q t (rs.map (·.1)) _ (En3.same s4) kk ft ⟨R, rs, upd_same, f1 _ (s2.free hR), s4 _ _ eR, aR.same s4, rfl⟩ ⟨En.nok n0 List.mem_cons_self, ?_⟩ ?_
  · refine ⟨by rw [List.length_map]; exact l1, by rw [List.length_map]; exact l2, fun r hr => ?_⟩
    obtain ⟨x, hx, rfl⟩ := List.mem_map.mp hr
    exact ⟨_, rok x hx⟩
  · have dr : Drawn (rs.map (·.1)) := ⟨by rw [List.length_map]; exact l1, by rw [List.length_map]; exact l2, fun r hr => by
      obtain ⟨x, hx, rfl⟩ := List.mem_map.mp hr
      exact ⟨_, rok x hx⟩⟩
    refine ⟨Nat.le_refl _, ?_⟩
    have := dr.len
    show (kindN (onceL (rs.map (·.1)))).chars.length ≤ 2 + 28 * 1
    omega
/-- "".join([letters[draw(len(letters))] for j in range(1 + draw(2))]) -/
def tMk (K : PySem.W.Frag) : TE := tM1 (rJoin K) (tC (V.str "")) (tLc (iRng1 (tCons (tOp (rI0 fun i j => V.int (i + j)) (tC (V.int 1)) (tCall spDraw [] E0 (tCons (tVar 0) (tCons (tC (V.int 2)) tNil)))) tNil)) (gName 9) tYes
  (tOp (rIxL K) (tVar 1) (tCall spDraw [] E0 (tCons (tVar 0) (tCons (tCB (rLenSeq K) (tCons (tVar 1) tNil)) tNil)))) [9])
theorem mk_m {b c p nl : Addr} {ls : List Nat} {ns : List Str} {x2 x3 x4 x5 x6 x7 x8 x9 x10 : Option V} {H : Hp} {Q : VK} (En : Env3 b c p nl ls ns H)
    (q : ∀ (t : Str) (H' : Hp), Env3 b c p nl ls ns H' → Kept b c H H' → MarkOk t → t.cps.size ≤ 2 → Q (.str t) H') : tMk K [some (.ref b), some (.ref p), x2, x3, x4, x5, x6, x7, x8, x9, x10] H Q := by
  refine ⟨⟨_, rfl⟩, _, rfl, b, c, 2, rfl, En.bag, by decide, by decide, fun d H2 d0 d2 B2 K2 => ⟨_, _, rfl, rfl, ?_⟩⟩
  obtain ⟨d, rfl⟩ := Int.eq_ofNat_of_zero_le d0
  have ed : (1 : Int) + ((d : Nat) : Int) = ((1 + d : Nat) : Int) := by omega
  refine ⟨((1 + d : Nat) : Int), by show [V.int (1 + ((d : Nat) : Int))] = _; rw [ed], by omega, by omega, fun D hD => ?_⟩
  have En2 := En.kept B2 K2
  have ll : (lettersV ls).length = 3 := by
    unfold lettersV
    rw [List.length_map, En.len]
  refine lc_range (lo := 0) (n := ((1 + d : Nat) : Int).toNat) (fun j H' => ∃ l : List Nat, l.length = j ∧ (∀ x ∈ l, x ∈ ls) ∧ H' D = some (.lst (lettersV l)) ∧ Env3 b c p nl ls ns H' ∧ Kept b c H2 H') ⟨[], rfl, (fun x h => by cases h), upd_same, En2.same (same_new hD), Kept.of (same_new hD)⟩ ?_ ?_
  · rintro j H3 hj ⟨l, l1, l2, e3, En3, K3⟩
    rw [Int.toNat_natCast] at hj
    refine ⟨rfl, yes_keep ?_⟩
    refine ⟨_, rfl, _, rfl, _, rfl, p, _, rfl, .inl (SqL.of En3.row), ?_⟩
    rw [ll]
    refine ⟨b, c, 3, rfl, En3.bag, by decide, by decide, fun k H4 k0 k3 B4 K4 => ?_⟩
    obtain ⟨k, rfl⟩ := Int.eq_ofNat_of_zero_le k0
    have hk : k < ls.length := by rw [En.len]; omega
    have gk : (lettersV ls)[k]? = some (.str (sg ls[k])) := by
      unfold lettersV
      rw [List.getElem?_map, List.getElem?_eq_getElem hk]
      rfl
    have En4 := En3.kept B4 K4
    have Db := En2.bag.neB hD
    have Dc := En2.bag.neC hD
    refine ⟨p, _, _, _, rfl, rfl, SqL.of En4.row, atI_nat gk, ?_⟩
    refine ⟨_, K4 _ _ e3 Db Dc, ?_, l ++ [ls[k]], by rw [List.length_append, l1]; rfl, fun x hx => ?_, ?_, ?_, fun x o e m1 m2 => ?_⟩
    · unfold lettersV
      rw [List.length_map]
      exact small1000 (by omega)
    · rcases List.mem_append.mp hx with hx | hx
      · exact l2 x hx
      · rw [List.mem_singleton.mp hx]
        exact List.getElem_mem hk
    · rw [upd_same]
      unfold lettersV
      rw [List.map_append]
      rfl
    · have Dp : p ≠ D := ne_of_none En2.row hD
      have Dn : nl ≠ D := ne_of_none En2.nms hD
      obtain ⟨⟨u1, u2, u3, u4⟩, ⟨u5, u6⟩⟩ := En4.bag
      exact ⟨⟨⟨u1, u2, u3, by rw [upd_ne (Ne.symm Db)]; exact u4⟩, ⟨u5, by rw [upd_ne (Ne.symm Dc)]; exact u6⟩⟩, by rw [upd_ne Dp]; exact En4.row, by rw [upd_ne Dn]; exact En4.nms, En4.pb, En4.pc, En4.pn, En4.nb, En4.nc, En4.len, En4.nd, En4.sub, En4.nok, En4.few⟩
    · rw [upd_ne (ne_of_none e hD)]
      exact K4 _ _ (K3 x o e m1 m2) m1 m2
  · rintro H3 ⟨l, l1, l2, e3, En3, K3⟩
    rw [Int.toNat_natCast] at l1
    refine ⟨tx [], D, l.map sg, rfl, rfl, .inl (SqL.of (by rw [← strs_sg]; exact e3)), ?_, ?_⟩
    · rw [sum_sg, len_tx, List.length_map]
      show l.length + l.length * 0 ≤ 16777216
      omega
    rw [join_sg]
    have ls2 : (tx l).cps.size = l.length := rfl
    exact q (tx l) H3 En3 (K2.trans K3) ⟨by omega, by omega, fun c hc => En.sub c (l2 c hc)⟩ (by omega)
/-- the inner rows -/
def spRowI : Nat → Sp
  | 0 => fun _ _ _ _ => False
  | n + 1 => spRowR n
set_option maxHeartbeats 40000000 in
theorem ok_rowS {f : Addr} {fd : FuncData} {n : Nat} (F : FnP K "_law_row" "_law_row" s_l_row f fd) (N : Nms mg) (D : Can P w K mg base CX0 "_law_draw" ["_law_bag_here", "_law_limit"] 1 spDraw) (S : Can P w K mg base CX0 "_law_rows" ["_law_bag_here", "_law_letters_here"] 4 spRowsD) (g : mg "_law_row" = some (.ref f)) (k : PySem.W.keepIn K (.ref f) = true) (b0 : Binds K fd ["_law_bag_here", "_law_letters_here", "_law_names_here", "_law_deep"] [])
    (G : FnOk P w K mg base CX0 (4 + n) f fd ["_law_bag_here", "_law_letters_here", "_law_names_here", "_law_deep"] (spRowI n)) : FnOk P w K mg base CX0 (4 + n + 1) f fd ["_law_bag_here", "_law_letters_here", "_law_names_here", "_law_deep"] (spRowR n) := by
  obtain ⟨fD, fdD, GD, gD, kD, bD⟩ := D
  obtain ⟨fS, fdS, GS, gS, kS, bS⟩ := S
  have nd := sc_l_row.nd
  refine F.ok sc_l_row (fun vs H Q E h => ?_) (fun cdv A outer s H vs Q E hr h => ?_)
  · obtain ⟨b, c, p, nl, ls, ns, rfl, _⟩ := h
    rfl
  · obtain ⟨b, c, p, nl, ls, ns, rfl, n3, En, q⟩ := h
    have r1 := hr.mono (show 1 ≤ 4 + n by omega)
    have r4 := hr.mono (show 4 ≤ 4 + n by omega)
    refine ⟨_, PSs.nox (pss_cons (ps_set (i := 4) nd rfl (by first | exact .inl rfl | exact .inr rfl) (pe_lst pa_nil))
      (pss_cons (ps_for PassesOwn.never rfl (pi_range1 rfl N.range (pa_cons (pe_op op_add pe_int (pe_call GD r1 (by rfl) gD kD bD .nil pass0 (pa_cons (pv 0) (pa_cons pe_int pa_nil)))) pa_nil)) (pg_name (i := 5) nd rfl (by first | exact .inl rfl | exact .inr rfl))
        (pss_cons (ps_set (i := 6) nd rfl (by first | exact .inl rfl | exact .inr rfl) (pe_call GD r1 (by rfl) gD kD bD .nil pass0 (pa_cons (pv 0) (pa_cons pe_int pa_nil))))
        (pss_one (ps_if (PW.pt (pw_and (pt_cmpR op_lt (pv 6) pe_int (nomark _)) (pw_and1 (pt_cmpR op_gt (pe_callB call_len_seq (by rfl) N.len PySem.boot_len (pa_cons (pv 2) pa_nil)) pe_int (nomark _)))))
          (pss_one (ps_expr (pe_bm PySem.F.plainAttrs_list PySem.F.slot_list_append PySem.F.type_list_append mt_append (pv 4) (pa_cons (pe_tup (pa_cons pe_str (pa_cons (pe_bm PySem.F.plainAttrs_list PySem.F.slot_list_pop PySem.F.type_list_pop mt_popAt (pv 2) (pa_cons pe_int pa_nil)) (pa_cons (pe_call GS r4 (by rfl) gS kS bS .nil pass0 (pa_cons (pv 0) (pa_cons (pe_slice (r := rSlL K) sl_list (pv 1) po_none (po_some pe_int)) pa_nil))) pa_nil)))) pa_nil))))
          (pss_one (ps_if (PW.pt (pw_and (pt_cmpR op_gt (pv 6) pe_int (nomark _)) (pw_and (pt_cmpR op_gt (pe_callB call_len_seq (by rfl) N.len PySem.boot_len (pa_cons (pv 2) pa_nil)) pe_int (nomark _)) (pw_and1 (pt_cmpR op_lt (pv 3) pe_int (nomark _))))))
            (pss_cons (ps_set (i := 7) nd rfl (by first | exact .inl rfl | exact .inr rfl) (pe_lst (pa_cons (pe_tup (pa_cons pe_str (pa_cons (pe_bm PySem.F.plainAttrs_list PySem.F.slot_list_pop PySem.F.type_list_pop mt_popAt (pv 2) (pa_cons pe_int pa_nil)) (pa_cons (pe_call GS r4 (by rfl) gS kS bS .nil pass0 (pa_cons (pv 0) (pa_cons (pe_slice (r := rSlL K) sl_list (pv 1) po_none (po_some pe_int)) pa_nil))) pa_nil)))) pa_nil)))
            (pss_cons (ps_set (i := 8) nd rfl (by first | exact .inl rfl | exact .inr rfl) (pe_lst pa_nil))
            (C8.pss_cut (ps_if (pt_cmpR op_eq (pe_call GD r1 (by rfl) gD kD bD .nil pass0 (pa_cons (pv 0) (pa_cons pe_int pa_nil))) pe_int (nomark _)) (pss_one (ps_set (i := 8) nd rfl (by first | exact .inl rfl | exact .inr rfl) (pe_call G hr (by rfl) g k b0 .nil pass0 (pa_cons (pv 0) (pa_cons (pv 1) (pa_cons (pv 2) (pa_cons (pe_op op_add (pv 3) pe_int) pa_nil))))))) pss_nil)
            (C8.pss_cut (ps_if (pt_cmpR op_eq (pe_call GD r1 (by rfl) gD kD bD .nil pass0 (pa_cons (pv 0) (pa_cons pe_int pa_nil))) pe_int (nomark _)) (pss_one (ps_set (i := 7) nd rfl (by first | exact .inl rfl | exact .inr rfl) (pe_op op_cat (pv 7) (pv 8)))) (pss_one (ps_set (i := 7) nd rfl (by first | exact .inl rfl | exact .inr rfl) (pe_op op_cat (pv 8) (pv 7)))))
            (pss_one (ps_expr (pe_bm PySem.F.plainAttrs_list PySem.F.slot_list_append PySem.F.type_list_append mt_append (pv 4) (pa_cons (pe_tup (pa_cons pe_str (pa_cons (pv 7) pa_nil))) pa_nil))))))))
            (pss_cons (ps_set (i := 10) nd rfl (by first | exact .inl rfl | exact .inr rfl) (pe_joinK (K := K) rfl pe_str (pe_lc (own := [("_law_j", 9)]) (g := gName 9) (tt := tYes) rfl nd (pi_range1 rfl N.range (pa_cons (pe_op op_add pe_int (pe_call GD r1 (by rfl) gD kD bD .nil pass0 (pa_cons (pv 0) (pa_cons pe_int pa_nil)))) pa_nil)) (blkOk_by (N := ["_law_bag_here", "_law_letters_here", "_law_names_here", "_law_deep", "_law_row_here", "_law_k", "_law_pick", "_law_own", "_law_more", "_law_j", "_law_text"]) (sc := defScope s_l_row) (by decide +kernel)) (fun _ _ _ _ _ => pg_name (i := 9) nd rfl (Or.inl rfl)) (fun _ _ _ _ _ => pts_nil)
              (fun _ _ _ _ _ => pe_ix (r := rIxL K) ix_list (pv 1) (pe_call GD r1 (by rfl) gD kD bD .nil pass0 (pa_cons (pv 0) (pa_cons (pe_callB (r := rLenSeq K) call_len_seq (by rfl) N.len PySem.boot_len (pa_cons (pv 1) pa_nil)) pa_nil))) (fun _ _ => rfl)))))
            (pss_one (ps_expr (pe_bm PySem.F.plainAttrs_list PySem.F.slot_list_append PySem.F.type_list_append mt_append (pv 4) (pa_cons (pe_tup (pa_cons pe_str (pa_cons (pv 10) pa_nil))) pa_nil)))))))))))
      (pss_one (ps_ret (pv 4))))), ?_⟩
    refine ⟨Nat.zero_le _, fun L hL => ?_⟩
    have s1 := same_new (o := .lst []) hL
    have Lb := En.bag.neB hL
    have Lc := En.bag.neC hL
    have Ln : L ≠ nl := Ne.symm (ne_of_none En.nms hL)
    have Lp : L ≠ p := Ne.symm (ne_of_none En.row hL)
    have eL : (upd H L (.lst [])) L = some (.lst (([] : List Addr).map V.ref)) := upd_same
    have atL : ∀ x, (upd H L (.lst [])) x = none → H x = none := fun x hx => s1.free hx
    have grow : ∀ {ns' : List Str} {H' : Hp} {o : HO}, Env3 b c p nl ls ns' H' → Kept3 b c nl H H' → H' L = some o → ∀ x, H' x = none → (upd H L (.lst [])) x = none := fun {ns' H' o} e kk el x hx => by
      have nb : x ≠ b := e.bag.neB hx
      have nc : x ≠ c := e.bag.neC hx
      have nn : x ≠ nl := Ne.symm (ne_of_none e.nms hx)
      have nL : x ≠ L := Ne.symm (ne_of_none el hx)
      rw [upd_ne nL]
      cases z : H x with
      | none => rfl
      | some o2 =>
        rw [kk x o2 z nb nc nn] at hx
        cases hx
    have En1 := En.same s1
    have b1 : (upd H L (.lst [])) b ≠ none := by obtain ⟨u1, u2, u3, u4⟩ := En1.bag.top; rw [u4]; exact fun z => by cases z
    have c1 : (upd H L (.lst [])) c ≠ none := by obtain ⟨u1, u2⟩ := En1.bag.cells; rw [u2]; exact fun z => by cases z
    have n1 : (upd H L (.lst [])) nl ≠ none := by rw [En1.nms]; exact fun z => by cases z
    have L1 : (upd H L (.lst [])) L ≠ none := by rw [eL]; exact fun z => by cases z
    generalize hHL : upd H L (.lst []) = HL at eL atL grow En1 b1 c1 n1 L1 s1
    have overK : ∀ {ns' : List Str} {H1 H2 : Hp}, Env3 b c p nl ls ns' H1 → Kept3 b c nl H1 H2 → Over HL H1 H2 := fun {ns' H1 H2} e kk => ⟨fun x o hx hxo => kk x o hxo (fun z => b1 (by rw [← z]; exact hx)) (fun z => c1 (by rw [← z]; exact hx)) (fun z => n1 (by rw [← z]; exact hx)), fun x xs hx => by
      obtain ⟨u1, u2, u3, u4⟩ := e.bag.top
      obtain ⟨u5, u6⟩ := e.bag.cells
      exact kk x _ hx (fun z => by rw [z, u4] at hx; cases hx) (fun z => by rw [z, u6] at hx; cases hx) (fun z => by rw [z, e.nms] at hx; cases hx)⟩
    have overL : ∀ {H1 : Hp} {xs : List V} {u : HO}, H1 L = some (.lst xs) → Over HL H1 (upd H1 L u) := fun {H1 xs u} e => ⟨fun x o hx hxo => by rw [upd_ne (fun z => L1 (by rw [← z]; exact hx))]; exact hxo, fun x ys hx => by rw [upd_ne (fun z => by rw [z, e] at hx; cases hx)]; exact hx⟩
    refine name_go ?_
    dsimp only
    refine seq_go ?_
    refine ⟨_, rfl, b, c, 3, rfl, En1.bag, by decide, by decide, fun d H2 d0 d3 B2 K2 => ⟨_, _, rfl, rfl, ?_⟩⟩
    obtain ⟨d, rfl⟩ := Int.eq_ofNat_of_zero_le d0
    have ed : (1 : Int) + ((d : Nat) : Int) = ((1 + d : Nat) : Int) := by omega
    refine ⟨((1 + d : Nat) : Int), by show [V.int (1 + ((d : Nat) : Int))] = _; rw [ed], by omega, by omega, ?_⟩
    have En2 := En1.kept B2 K2
    have k2 : Kept3 b c nl H H2 := fun x o e m1 m2 _ => K2 x o (s1 x o e) m1 m2
    have e2 := K2 _ _ eL Lb Lc
    refine for_range (lo := 0) (n := ((1 + d : Nat) : Int).toNat) (fun i σ H' => ∃ (x5 x6 x7 x8 x9 x10 : Option V) (ps : List Raw) (xs : List Addr) (ns' : List Str), σ = [some (.ref b), some (.ref p), some (.ref nl), some (.int ((3 : Int) - (n : Int))), some (.ref L), x5, x6, x7, x8, x9, x10] ∧ Env3 b c p nl ls ns' H' ∧ Kept3 b c nl H H' ∧ H' L = some (.lst (xs.map V.ref)) ∧ RawsAt HL H' ps xs ∧ ps.length = i ∧ RawsOk ps ∧ (nmRs ps ++ ns').Perm ns ∧ ∀ r ∈ ps, FitR n r)
      ⟨none, none, none, none, none, none, [], [], ns, rfl, En2, k2, e2, rfl, rfl, True.intro, List.Perm.refl _, fun r hr => by cases hr⟩ ?_ ?_
    · rintro i σ H3 hi ⟨x5, x6, x7, x8, x9, x10, ps, xs, ns', rfl, En3, K3, e3, at3, l3, ok3, pm3, ft3⟩
      rw [Int.toNat_natCast] at hi
      dsimp only
      have lxs : xs.length = i := by rw [at3.length, l3]
      -- an item more
      have fin : ∀ (r : Raw) (t : Addr) (ns2 : List Str) (H4 : Hp) (y5 y6 y7 y8 y9 y10 : Option V), Env3 b c p nl ls ns2 H4 → Kept3 b c nl H H4 → H4 L = some (.lst (xs.map V.ref)) → RawsAt HL H4 ps xs → RawAt HL H4 r t → RawOk r → FitR n r → (nmR r ++ ns2).Perm ns' →
          ∃ (x5 x6 x7 x8 x9 x10 : Option V) (ps' : List Raw) (xs' : List Addr) (ns' : List Str), [some (.ref b), some (.ref p), some (.ref nl), some (.int ((3 : Int) - (n : Int))), some (.ref L), y5, y6, y7, y8, y9, y10] = [some (.ref b), some (.ref p), some (.ref nl), some (.int ((3 : Int) - (n : Int))), some (.ref L), x5, x6, x7, x8, x9, x10] ∧ Env3 b c p nl ls ns' (upd H4 L (.lst (xs.map V.ref ++ [.ref t]))) ∧ Kept3 b c nl H (upd H4 L (.lst (xs.map V.ref ++ [.ref t]))) ∧ (upd H4 L (.lst (xs.map V.ref ++ [.ref t]))) L = some (.lst (xs'.map V.ref)) ∧ RawsAt HL (upd H4 L (.lst (xs.map V.ref ++ [.ref t]))) ps' xs' ∧ ps'.length = i + 1 ∧ RawsOk ps' ∧ (nmRs ps' ++ ns').Perm ns ∧ ∀ r ∈ ps', FitR n r := fun r t ns2 H4 y5 y6 y7 y8 y9 y10 E4 K4 e4 a4 ar rok rf pm => by
        have ov := overL (u := .lst (xs.map V.ref ++ [.ref t])) e4
        refine ⟨y5, y6, y7, y8, y9, y10, ps ++ [r], xs ++ [t], ns2, rfl, ?_, fun x o e m1 m2 m3 => ?_, ?_, (RawsAt.over ov _ _ a4).app (RawsAt.one (RawAt.over ov _ _ ar)), by rw [List.length_append, l3]; rfl, rawsOk_app ok3 ⟨rok, True.intro⟩, ?_, fun r2 h2 => ?_⟩
        · obtain ⟨⟨u1, u2, u3, u4⟩, ⟨u5, u6⟩⟩ := E4.bag
          exact ⟨⟨⟨u1, u2, u3, by rw [upd_ne (Ne.symm Lb)]; exact u4⟩, ⟨u5, by rw [upd_ne (Ne.symm Lc)]; exact u6⟩⟩, by rw [upd_ne (Ne.symm Lp)]; exact E4.row, by rw [upd_ne (Ne.symm Ln)]; exact E4.nms, E4.pb, E4.pc, E4.pn, E4.nb, E4.nc, E4.len, E4.nd, E4.sub, E4.nok, E4.few⟩
        · rw [upd_ne (ne_of_none e hL)]
          exact K4 x o e m1 m2 m3
        · rw [upd_same, List.map_append]
          rfl
        · rw [nmRs_app]
          have e : nmRs [r] = nmR r := List.append_nil _
          rw [e, List.append_assoc]
          exact (List.Perm.append_left _ pm).trans pm3
        · rcases List.mem_append.mp h2 with h2 | h2
          · exact ft3 r2 h2
          · rw [List.mem_singleton.mp h2]
            exact rf
      refine seq_go (asg_go ?_)
      refine ⟨_, rfl, b, c, 7, rfl, En3.bag, by decide, by decide, fun pk H4 p0 p7 B4 K4 => ?_⟩
      have En4 := En3.kept B4 K4
      have kk4 : Kept3 b c nl H H4 := K3.trans K4.three
      have e4 := K4 _ _ e3 Lb Lc
      have at4 := RawsAt.over (overK En3 K4.three) _ _ at3
      have few : xs.length ≤ 3 := by omega
      have sm : ((xs.map V.ref : List V)).length < sizeLine := by rw [List.length_map]; exact small1000 (by omega)
      refine name_go ?_
      dsimp only
      have lnm : (strL ns').length = ns'.length := List.length_map _
      -- without a name, or by the draw: a mark
      -- what a mark does
      have mark : ∀ (t : Str) (H5 : Hp), Env3 b c p nl ls ns' H5 → Kept b c H4 H5 → MarkOk t → t.cps.size ≤ 2 → ∀ (a : Addr), H5 a = none → ∀ (y5 y6 y7 y8 y9 y10 : Option V), _ := fun t H5 En5 K5 mok m2 a na y5 y6 y7 y8 y9 y10 => by
        have s6 := same_new (o := .tup [.str "m", .str t]) na
        have k46 : Kept3 b c nl H4 (upd H5 a (.tup [.str "m", .str t])) := fun x o e m1 m2 _ => s6 _ _ (K5 x o e m1 m2)
        exact fin (.m t) a ns' _ y5 y6 y7 y8 y9 y10 (En5.same s6) (kk4.trans k46) (s6 _ _ (K5 _ _ e4 Lb Lc)) (RawsAt.over (overK En4 k46) _ _ at4) upd_same mok ⟨Nat.zero_le _, m2⟩ (List.Perm.refl _)
      refine ⟨_, rfl, _, _, rfl, rfl, _, rfl, ite2 (fun c1 => ?_) fun c1 => iteF ?_⟩
      · have c1 := of_decide_eq_true c1
        refine ⟨_, rfl, nl, _, rfl, .inl (SqL.of En4.nms), _, _, rfl, rfl, _, rfl, ite2 (fun c2 => ?_) fun c2 => ?_⟩
        · -- a field
          have c2 := of_decide_eq_true c2
          rw [lnm] at c2
          obtain ⟨n0, rest, rfl⟩ : ∃ n0 rest, ns' = n0 :: rest := List.exists_cons_of_ne_nil fun z => by rw [z] at c2; simp at c2
          refine ⟨.ref L, rfl, .inl ⟨rfl, _, SqL.of e4⟩, mk_f rfl rfl rfl En4 fun t rows H5 En5 K5 nt rt rok rft => ⟨L, _, _, rfl, rfl, K5 _ _ e4 Lb Lc Ln, sm, ?_⟩⟩
          exact fin _ t rest H5 _ _ _ _ _ _ En5 (kk4.trans K5) (K5 _ _ e4 Lb Lc Ln) (RawsAt.over (overK En4 K5) _ _ at4) (RawAt.from (grow En4 kk4 e4) _ _ rt) rok ⟨Nat.zero_le _, rft.2⟩ (List.Perm.refl _)
        · -- no name is left
          refine ⟨_, rfl, _, _, rfl, rfl, _, rfl, ?_⟩
          refine (if_neg (fun z => by have z := of_decide_eq_true z; omega)).mpr ?_
          refine iteF ?_
          refine seq_go (asg_go (mk_m En4 fun t H5 En5 K5 mok m2 => ?_))
          refine name_go ?_
          dsimp only
          refine ⟨.ref L, rfl, .inl ⟨rfl, _, SqL.of (K5 _ _ e4 Lb Lc)⟩, _, rfl, line_small (by show 2 ≤ 16777216; decide), fun a na => ?_⟩
          have e6 := (same_new (o := .tup [.str "m", .str t]) na) _ _ (K5 _ _ e4 Lb Lc)
          exact ⟨L, _, _, rfl, rfl, e6, sm, mark t H5 En5 K5 mok m2 a na _ _ _ _ _ _⟩
      · have c1 : ¬ pk < 4 := fun z => c1 (decide_eq_true z)
        refine ⟨_, rfl, _, _, rfl, rfl, _, rfl, ite2 (fun c3 => ?_) fun c3 => iteF ?_⟩
        · refine ⟨_, rfl, nl, _, rfl, .inl (SqL.of En4.nms), _, _, rfl, rfl, _, rfl, ite2 (fun c2 => ?_) fun c2 => iteF ?_⟩
          · refine ⟨_, rfl, _, _, rfl, rfl, _, rfl, ite2 (fun c4 => ?_) fun c4 => ?_⟩
            · -- a group
              have c2 := of_decide_eq_true c2
              have c4 := of_decide_eq_true c4
              rw [lnm] at c2
              obtain ⟨n0, rest, rfl⟩ : ∃ n0 rest, ns' = n0 :: rest := List.exists_cons_of_ne_nil fun z => by rw [z] at c2; simp at c2
              obtain ⟨m, rfl⟩ : ∃ m, n = m + 1 := ⟨n - 1, by omega⟩
              refine seq_go (asg_go ?_)
              refine mk_f rfl rfl rfl En4 fun t rows H5 En5 K5 nt rt rok rft => ?_
              refine ⟨line_small (by show 1 ≤ 16777216; decide), fun own hown => ?_⟩
              have s6 := same_new (o := .lst [.ref t]) hown
              have e5 := K5 _ _ e4 Lb Lc Ln
              have kk5 := kk4.trans K5
              have ownHL : HL own = none := grow En5 kk5 e5 own hown
              have rt5 := RawAt.from (HB := HL) (grow En4 kk4 e4) _ _ rt
              have eown : (upd H5 own (.lst [.ref t])) own = some (.lst ([t].map V.ref)) := upd_same
              have at5 := RawsAt.over (overK En4 K5) _ _ at4
              have En6 := En5.same s6
              have kk6 : Kept3 b c nl H (upd H5 own (.lst [.ref t])) := fun x o e m1 m2 m3 => s6 _ _ (kk5 x o e m1 m2 m3)
              have e6 := s6 _ _ e5
              have at6 := RawsAt.over (over_same (HB := HL) s6) _ _ at5
              have rt6 := RawAt.over (over_same (HB := HL) s6) _ _ rt5
              have ownB := En5.bag.neB hown
              have ownC := En5.bag.neC hown
              have ownN : own ≠ nl := Ne.symm (ne_of_none En5.nms hown)
              generalize upd H5 own (.lst [.ref t]) = H6 at eown En6 kk6 e6 at6 rt6 ⊢
              refine name_go ?_
              dsimp only
              refine seq_go (asg_go ?_)
              refine ⟨Nat.zero_le _, fun mo hmo => ?_⟩
              have s7 := same_new (o := .lst []) hmo
              have emo : (upd H6 mo (.lst [])) mo = some (.lst (([] : List Addr).map V.ref)) := upd_same
              have En7 := En6.same s7
              have kk7 : Kept3 b c nl H (upd H6 mo (.lst [])) := fun x o e m1 m2 m3 => s7 _ _ (kk6 x o e m1 m2 m3)
              have e7 := s7 _ _ e6
              have at7 := RawsAt.over (over_same (HB := HL) s7) _ _ at6
              have rt7 := RawAt.over (over_same (HB := HL) s7) _ _ rt6
              have eo7 := s7 _ _ eown
              have moB := En6.bag.neB hmo
              have moC := En6.bag.neC hmo
              generalize upd H6 mo (.lst []) = H7 at emo En7 kk7 e7 at7 rt7 eo7 ⊢
              refine name_go ?_
              dsimp only
              refine ⟨fun σ' H' => ∃ (mo : Addr) (mps : List Raw) (mxs : List Addr) (ns2 : List Str) (y9 y10 : Option V), σ' = [some (.ref b), some (.ref p), some (.ref nl), some (.int ((3 : Int) - ((m + 1 : Nat) : Int))), some (.ref L), some (.int (0 + (i : Int))), some (.int pk), some (.ref own), some (.ref mo), y9, y10] ∧ Env3 b c p nl ls ns2 H' ∧ Kept3 b c nl H H' ∧ H' L = some (.lst (xs.map V.ref)) ∧ RawsAt HL H' ps xs ∧
                H' own = some (.lst ([t].map V.ref)) ∧ RawAt HL H' (.f n0 rows) t ∧ H' mo = some (.lst (mxs.map V.ref)) ∧ RawsAt HL H' mps mxs ∧ mps.length ≤ 3 ∧ RawsOk mps ∧ (nmRs mps ++ ns2).Perm rest ∧ (∀ r ∈ mps, FitR m r) ∧ mo ≠ b ∧ mo ≠ c, ?_, ?_⟩
              · refine ⟨_, rfl, b, c, 2, rfl, En7.bag, by decide, by decide, fun d H8 d0 d2 B8 K8 => ⟨rfl, _, rfl, ?_⟩⟩
                have En8 := En7.kept B8 K8
                have kk8 : Kept3 b c nl H H8 := kk7.trans K8.three
                have e8 := K8 _ _ e7 Lb Lc
                have at8 := RawsAt.over (overK En7 K8.three) _ _ at7
                have rt8 := RawAt.over (overK En7 K8.three) _ _ rt7
                have eo8 := K8 _ _ eo7 ownB ownC
                refine ite2 (fun _ => ?_) fun _ => ⟨mo, [], [], rest, x9, x10, rfl, En8, kk8, e8, at8, eo8, rt8, K8 _ _ emo moB moC, rfl, by decide, True.intro, List.Perm.refl _, (fun r hr => by cases hr), moB, moC⟩
                refine asg_go ?_
                refine ⟨_, rfl, _, rfl, _, rfl, _, rfl, _, _, rfl, rfl, ?_⟩
                refine ⟨b, c, p, nl, ls, rest, by show [V.ref b, V.ref p, V.ref nl, V.int ((3 : Int) - ((m + 1 : Nat) : Int) + 1)] = _; rw [show (3 : Int) - ((m + 1 : Nat) : Int) + 1 = (3 : Int) - (m : Int) by omega], by omega, En8, fun R mps mxs ns2 H9 En9 K9 hR eR aR l1 l3' mok pm mft => ?_⟩
                refine name_go ?_
                dsimp only
                exact ⟨R, mps, mxs, ns2, x9, x10, rfl, En9, kk8.trans K9, K9 _ _ e8 Lb Lc Ln, RawsAt.over (overK En8 K9) _ _ at8, K9 _ _ eo8 ownB ownC ownN, RawAt.over (overK En8 K9) _ _ rt8, eR, RawsAt.from (grow En8 kk8 e8) _ _ aR, l3', mok, pm, mft, En8.bag.neB hR, En8.bag.neC hR⟩
              · rintro σ' H8 ⟨mo2, mps, mxs, ns2, y9, y10, rfl, En8, kk8, e8, at8, eo8, rt8, emo8, am8, lm, mok, pm, mft, moB, moC⟩
                have lmx : mxs.length = mps.length := am8.length
                refine ⟨fun σ' H' => ∃ (o2 : Addr) (ps2 : List Raw) (xs2 : List Addr) (y9 y10 : Option V), σ' = [some (.ref b), some (.ref p), some (.ref nl), some (.int ((3 : Int) - ((m + 1 : Nat) : Int))), some (.ref L), some (.int (0 + (i : Int))), some (.int pk), some (.ref o2), some (.ref mo2), y9, y10] ∧ Env3 b c p nl ls ns2 H' ∧ Kept3 b c nl H H' ∧ H' L = some (.lst (xs.map V.ref)) ∧ RawsAt HL H' ps xs ∧
                  HL o2 = none ∧ H' o2 = some (.lst (xs2.map V.ref)) ∧ RawsAt HL H' ps2 xs2 ∧ (ps2 = [.f n0 rows] ++ mps ∨ ps2 = mps ++ [.f n0 rows]), ?_, ?_⟩
                · refine ⟨_, rfl, b, c, 2, rfl, En8.bag, by decide, by decide, fun d H9 d0 d2 B9 K9 => ⟨rfl, _, rfl, ?_⟩⟩
                  have En9 := En8.kept B9 K9
                  have kk9 : Kept3 b c nl H H9 := kk8.trans K9.three
                  have e9 := K9 _ _ e8 Lb Lc
                  have at9 := RawsAt.over (overK En8 K9.three) _ _ at8
                  have rt9 := RawAt.over (overK En8 K9.three) _ _ rt8
                  have am9 := RawsAt.over (overK En8 K9.three) _ _ am8
                  have eo9 := K9 _ _ eo8 ownB ownC
                  have emo9 := K9 _ _ emo8 moB moC
                  have small : ([t].map V.ref).length + (mxs.map V.ref).length ≤ sizeLine := by
                    rw [List.length_map, List.length_map, sizeLine_eq]
                    show 1 + mxs.length ≤ _
                    omega
                  have fin2 : ∀ (ps2 : List Raw) (xs2 : List Addr) (u : Addr), H9 u = none → RawsAt HL H9 ps2 xs2 → (ps2 = [.f n0 rows] ++ mps ∨ ps2 = mps ++ [.f n0 rows]) → _ := fun ps2 xs2 u nu a2 w => by
                    have sU := same_new (o := .lst (xs2.map V.ref)) nu
                    exact (⟨u, ps2, xs2, y9, y10, rfl, En9.same sU, fun x o e m1 m2 m3 => sU _ _ (kk9 x o e m1 m2 m3), sU _ _ e9, RawsAt.over (over_same sU) _ _ at9, grow En9 kk9 e9 u nu, upd_same, RawsAt.over (over_same sU) _ _ a2, w⟩ : ∃ (o2 : Addr) (ps2 : List Raw) (xs2' : List Addr) (y9' y10' : Option V), [some (.ref b), some (.ref p), some (.ref nl), some (.int ((3 : Int) - ((m + 1 : Nat) : Int))), some (.ref L), some (.int (0 + (i : Int))), some (.int pk), some (.ref u), some (.ref mo2), y9, y10] = [some (.ref b), some (.ref p), some (.ref nl), some (.int ((3 : Int) - ((m + 1 : Nat) : Int))), some (.ref L), some (.int (0 + (i : Int))), some (.int pk), some (.ref o2), some (.ref mo2), y9', y10'] ∧ Env3 b c p nl ls ns2 (upd H9 u (.lst (xs2.map V.ref))) ∧ Kept3 b c nl H (upd H9 u (.lst (xs2.map V.ref))) ∧ (upd H9 u (.lst (xs2.map V.ref))) L = some (.lst (xs.map V.ref)) ∧ RawsAt HL (upd H9 u (.lst (xs2.map V.ref))) ps xs ∧
                      HL o2 = none ∧ (upd H9 u (.lst (xs2.map V.ref))) o2 = some (.lst (xs2'.map V.ref)) ∧ RawsAt HL (upd H9 u (.lst (xs2.map V.ref))) ps2 xs2' ∧ (ps2 = [.f n0 rows] ++ mps ∨ ps2 = mps ++ [.f n0 rows]))
                  refine ite2 (fun _ => ?_) fun _ => ?_
                  · refine asg_go ?_
                    refine ⟨_, rfl, _, rfl, own, mo2, _, _, rfl, rfl, eo9, emo9, small, fun u nu => ?_⟩
                    rw [← List.map_append]
                    exact fin2 _ _ u nu ((RawsAt.one rt9).app am9) (.inl rfl)
                  · refine asg_go ?_
                    refine ⟨_, rfl, _, rfl, mo2, own, _, _, rfl, rfl, emo9, eo9, by rw [Nat.add_comm]; exact small, fun u nu => ?_⟩
                    rw [← List.map_append]
                    exact fin2 _ _ u nu (am9.app (RawsAt.one rt9)) (.inr rfl)
                · rintro σ' H9 ⟨o2, ps2, xs2, z9, z10, rfl, En9, kk9, e9, at9, hL2, e2', a2, w⟩
                  refine ⟨.ref L, rfl, .inl ⟨rfl, _, SqL.of e9⟩, _, rfl, line_small (by show 2 ≤ 16777216; decide), fun a na => ?_⟩
                  have s10 := same_new (o := .tup [.str "o", .ref o2]) na
                  refine ⟨L, _, _, rfl, rfl, s10 _ _ e9, sm, ?_⟩
                  have dl := rok.2.len
                  have sm2 := siz_raws fun r hr => (mft r hr).2
                  have len2 : ps2.length = mps.length + 1 := by
                    rcases w with rfl | rfl
                    · rw [List.length_append]; show 1 + _ = _; omega
                    · rw [List.length_append]; rfl
                  have nm2 : (nmRs ps2).Perm (n0 :: nmRs mps) := by
                    rcases w with rfl | rfl
                    · exact List.Perm.refl _
                    · rw [nmRs_app]
                      exact (List.perm_append_comm (l₁ := nmRs mps) (l₂ := [n0]))
                  have sz2 : sizL (toIs ps2) = (kindN (onceL rows)).chars.length + sizL (toIs mps) := by
                    rcases w with rfl | rfl
                    · rfl
                    · rw [toIs_app, sizL_app, Nat.add_comm]
                      rfl
                  have dp2 : depL (toIs ps2) ≤ m := depL_lt fun it hit => by
                    rw [toIs_map] at hit
                    obtain ⟨r, hr, rfl⟩ := List.mem_map.mp hit
                    have : r = .f n0 rows ∨ r ∈ mps := by
                      rcases w with rfl | rfl
                      · rcases List.mem_append.mp hr with h | h
                        · exact .inl (List.mem_singleton.mp h)
                        · exact .inr h
                      · rcases List.mem_append.mp hr with h | h
                        · exact .inr h
                        · exact .inl (List.mem_singleton.mp h)
                    rcases this with rfl | h
                    · exact Nat.zero_le _
                    · exact (mft r h).1
                  have ow2 : ownF (toIs ps2) = true := by
                    rw [ownF_any, toIs_map]
                    refine List.any_eq_true.mpr ⟨toI (.f n0 rows), List.mem_map.mpr ⟨_, ?_, rfl⟩, rfl⟩
                    rcases w with rfl | rfl
                    · exact List.mem_append_left _ (List.mem_singleton.mpr rfl)
                    · exact List.mem_append_right _ (List.mem_singleton.mpr rfl)
                  have ok2 : RawsOk ps2 := by
                    rcases w with rfl | rfl
                    · exact ⟨rok, mok⟩
                    · exact rawsOk_app mok ⟨rok, True.intro⟩
                  have lnm2 := nm2.length_eq
                  rw [List.length_cons] at lnm2
                  refine fin (.o ps2) a ns2 _ _ _ _ _ _ _ (En9.same s10) (fun x o e m1 m2 m3 => s10 _ _ (kk9 x o e m1 m2 m3)) (s10 _ _ e9) (RawsAt.over (over_same s10) _ _ at9) ⟨o2, xs2, upd_same, hL2, s10 _ _ e2', RawsAt.over (over_same s10) _ _ a2⟩ ⟨ok2, ow2, by omega⟩ ⟨?_, ?_⟩ ?_
                  · show 1 + depL (joinJ (toIs ps2)) ≤ m + 1
                    have := join_dep (toIs ps2)
                    omega
                  · show sizL (joinJ (toIs ps2)) ≤ 2 + 28 * (nmRs ps2).length
                    rw [join_siz, sz2]
                    omega
                  · show (nmRs ps2 ++ ns2).Perm (n0 :: rest)
                    exact (nm2.append_right ns2).trans (List.Perm.cons n0 pm)
            · refine seq_go (asg_go (mk_m En4 fun t H5 En5 K5 mok m2 => ?_))
              refine name_go ?_
              dsimp only
              refine ⟨.ref L, rfl, .inl ⟨rfl, _, SqL.of (K5 _ _ e4 Lb Lc)⟩, _, rfl, line_small (by show 2 ≤ 16777216; decide), fun a na => ?_⟩
              have e6 := (same_new (o := .tup [.str "m", .str t]) na) _ _ (K5 _ _ e4 Lb Lc)
              exact ⟨L, _, _, rfl, rfl, e6, sm, mark t H5 En5 K5 mok m2 a na _ _ _ _ _ _⟩
          · refine seq_go (asg_go (mk_m En4 fun t H5 En5 K5 mok m2 => ?_))
            refine name_go ?_
            dsimp only
            refine ⟨.ref L, rfl, .inl ⟨rfl, _, SqL.of (K5 _ _ e4 Lb Lc)⟩, _, rfl, line_small (by show 2 ≤ 16777216; decide), fun a na => ?_⟩
            have e6 := (same_new (o := .tup [.str "m", .str t]) na) _ _ (K5 _ _ e4 Lb Lc)
            exact ⟨L, _, _, rfl, rfl, e6, sm, mark t H5 En5 K5 mok m2 a na _ _ _ _ _ _⟩
        · refine seq_go (asg_go (mk_m En4 fun t H5 En5 K5 mok m2 => ?_))
          refine name_go ?_
          dsimp only
          refine ⟨.ref L, rfl, .inl ⟨rfl, _, SqL.of (K5 _ _ e4 Lb Lc)⟩, _, rfl, line_small (by show 2 ≤ 16777216; decide), fun a na => ?_⟩
          have e6 := (same_new (o := .tup [.str "m", .str t]) na) _ _ (K5 _ _ e4 Lb Lc)
          exact ⟨L, _, _, rfl, rfl, e6, sm, mark t H5 En5 K5 mok m2 a na _ _ _ _ _ _⟩
    · rintro σ H3 ⟨x5, x6, x7, x8, x9, x10, ps, xs, ns', rfl, En3, K3, e3, at3, l3, ok3, pm3, ft3⟩
      rw [Int.toNat_natCast] at l3
      exact ⟨_, rfl, q L ps xs ns' H3 En3 K3 hL e3 (RawsAt.from atL _ _ at3) (by omega) (by omega) ok3 pm3 ft3⟩
end
end K14

set_option autoImplicit false
set_option maxErrors 4
namespace K14
open PySem PySem.Spec PyProof.Rows L2 Tl
/-! ### the drawn lines -/
def RawL (HB H : Hp) (r : Addr) (ps : List Raw) : Prop := ∃ xs : List Addr, H r = some (.lst (xs.map V.ref)) ∧ RawsAt HB H ps xs
def RawLin (HB H : Hp) (R : Addr) (pss : List (List Raw)) : Prop := ∃ rs : List Addr, H R = some (.lst (rs.map V.ref)) ∧ rs.length = pss.length ∧ ∀ (j : Nat) (r : Addr) (ps : List Raw), rs[j]? = some r → pss[j]? = some ps → RawL HB H r ps
theorem RawL.same {HB H H' : Hp} {r : Addr} {ps : List Raw} (h : RawL HB H r ps) (s : Same H H') : RawL HB H' r ps := by
  obtain ⟨xs, h1, h2⟩ := h
  exact ⟨xs, s _ _ h1, RawsAt.over (over_same s) _ _ h2⟩
theorem RawLin.same {HB H H' : Hp} {r : Addr} {ps : List (List Raw)} (h : RawLin HB H r ps) (s : Same H H') : RawLin HB H' r ps := by
  obtain ⟨rs, h1, h2, h3⟩ := h
  exact ⟨rs, s _ _ h1, h2, fun j r ps e1 e2 => (h3 j r ps e1 e2).same s⟩
def nmP (pss : List (List Raw)) : List Str := pss.flatMap nmRs
structure PssOk (pss : List (List Raw)) : Prop where
  lo : 1 ≤ pss.length
  hi : pss.length ≤ 3
  each : ∀ ps ∈ pss, 1 ≤ ps.length ∧ ps.length ≤ 3 ∧ RawsOk ps ∧ ∀ r ∈ ps, FitR 3 r
  nd : (nmP pss).Nodup
  few : (nmP pss).length ≤ 6
mutual
theorem fdsI_toI : ∀ r : Raw, (fdsI (toI r)).map (·.1) = nmR r
  | .f n rows => rfl
  | .m t => rfl
  | .o ps => by
    show (fdsL (joinJ (toIs ps))).map (·.1) = nmRs ps
    rw [join_fds]
    exact fdsL_toIs ps
theorem fdsL_toIs : ∀ ps : List Raw, (fdsL (toIs ps)).map (·.1) = nmRs ps
  | [] => rfl
  | r :: q => by
    show (fdsI (toI r) ++ fdsL (toIs q)).map (·.1) = nmR r ++ nmRs q
    rw [List.map_append, fdsI_toI r, fdsL_toIs q]
end
theorem nmsL_toIs (pss : List (List Raw)) : nmsL (pss.map toIs) = nmP pss := by
  unfold nmsL nmP nmsP
  rw [List.flatMap_map]
  congr 1
  funext ps
  exact fdsL_toIs ps
theorem siz_pss : ∀ {pss : List (List Raw)}, (∀ ps ∈ pss, ps.length ≤ 3 ∧ ∀ r ∈ ps, FitR 3 r) → ((pss.map toIs).map sizL).sum ≤ 6 * pss.length + 28 * (nmP pss).length
  | [], _ => Nat.le_refl _
  | ps :: q, h => by
    obtain ⟨h1, h2⟩ := h ps List.mem_cons_self
    have h3 := siz_pss fun x hx => h x (List.mem_cons_of_mem _ hx)
    have h4 := siz_raws fun r hr => (h2 r hr).2
    show sizL (toIs ps) + ((q.map toIs).map sizL).sum ≤ 6 * (q.length + 1) + 28 * (nmRs ps ++ nmP q).length
    rw [List.length_append]
    omega
theorem dep_toIs {n : Nat} {ps : List Raw} (h : ∀ r ∈ ps, FitR n r) : depL (toIs ps) ≤ n := depL_lt fun i hi => by
  rw [toIs_map] at hi
  obtain ⟨r, hr, rfl⟩ := List.mem_map.mp hi
  exact (h r hr).1
theorem PssOk.lines {pss : List (List Raw)} (h : PssOk pss) : LinesOk (pss.map toIs) := by
  have hi := h.hi
  have few := h.few
  refine ⟨by rw [List.length_map]; exact h.lo, by rw [List.length_map]; omega, fun x hx => ?_, fun x hx => ?_, by rw [nmsL_toIs]; exact h.nd, by rw [nmsL_toIs]; omega, ?_⟩
  · obtain ⟨ps, hp, rfl⟩ := List.mem_map.mp hx
    have := (h.each ps hp).1
    cases ps with
    | nil => cases this
    | cons a r => exact fun z => by cases z
  · obtain ⟨ps, hp, rfl⟩ := List.mem_map.mp hx
    have := dep_toIs (h.each ps hp).2.2.2
    omega
  · have := siz_pss fun ps hp => ⟨(h.each ps hp).2.1, (h.each ps hp).2.2.2⟩
    rw [List.length_map]
    omega
section
variable {P : Program} {w : World} {K : PySem.W.Frag} {mg : Str → Option Value} {base : Heap}
theorem ok_rowR {f : Addr} {fd : FuncData} (F : FnP K "_law_row" "_law_row" s_l_row f fd) (N : Nms mg) (D : Can P w K mg base CX0 "_law_draw" ["_law_bag_here", "_law_limit"] 1 spDraw) (S : Can P w K mg base CX0 "_law_rows" ["_law_bag_here", "_law_letters_here"] 4 spRowsD) (g : mg "_law_row" = some (.ref f)) (k : PySem.W.keepIn K (.ref f) = true) (b0 : Binds K fd ["_law_bag_here", "_law_letters_here", "_law_names_here", "_law_deep"] []) :
    ∀ n, FnOk P w K mg base CX0 (4 + n + 1) f fd ["_law_bag_here", "_law_letters_here", "_law_names_here", "_law_deep"] (spRowR n)
  | 0 => ok_rowS (n := 0) F N D S g k b0 ⟨fun vs H Q E h => (show False from h).elim, fun A outer s H args us vs Q E _ _ _ _ h => (show False from h).elim⟩
  | n + 1 => ok_rowS (n := n + 1) F N D S g k b0 (ok_rowR F N D S g k b0 n)
def spLinesR : Sp := fun vs H Q _ => ∃ (b c : Addr) (m : Nat), vs = [.ref b, .int (m : Nat)] ∧ Bag H b c ∧ m ≤ 6 ∧ ∀ (R : Addr) (pss : List (List Raw)) (HB H' : Hp), RawLin HB H' R pss → PssOk pss → Q (.ref R) H'
set_option maxHeartbeats 20000000 in
theorem ok_linesR {f : Addr} {fd : FuncData} (F : FnP K "_law_lines" "_law_lines" s_l_lines f fd) (N : Nms mg) (D : Can P w K mg base CX0 "_law_draw" ["_law_bag_here", "_law_limit"] 1 spDraw) (S : Can P w K mg base CX0 "_law_letters" ["_law_bag_here", "_law_many"] 2 spLetters) (S2 : Can P w K mg base CX0 "_law_names" ["_law_bag_here", "_law_many"] 2 spNames)
    (S3 : Can P w K mg base CX0 "_law_row" ["_law_bag_here", "_law_letters_here", "_law_names_here", "_law_deep"] 8 (spRowR 3)) : FnOk P w K mg base CX0 9 f fd ["_law_bag_here", "_law_many"] spLinesR := by
  obtain ⟨fD, fdD, GD, gD, kD, bD⟩ := D
  obtain ⟨f1, fd1, G1, g1, k1, b1⟩ := S
  obtain ⟨f2, fd2, G2, g2, k2, b2⟩ := S2
  obtain ⟨f3, fd3, G3, g3, k3, b3⟩ := S3
  have nd := sc_l_lines.nd
  refine F.ok sc_l_lines (fun vs H Q E h => ?_) (fun cdv A outer s H vs Q E hr h => ?_)
  · obtain ⟨b, c, m, rfl, _⟩ := h
    rfl
  · obtain ⟨b, c, m, rfl, B, m6, q⟩ := h
    have r1 := hr.mono (show 1 ≤ 8 by decide)
    have r2 := hr.mono (show 2 ≤ 8 by decide)
    refine ⟨_, PSs.nox (pss_cons (ps_set (i := 2) nd rfl (.inl rfl) (pe_call G1 r2 (by rfl) g1 k1 b1 .nil pass0 (pa_cons (pv 0) (pa_cons pe_int pa_nil))))
      (pss_cons (ps_set (i := 3) nd rfl (.inl rfl) (pe_call G2 r2 (by rfl) g2 k2 b2 .nil pass0 (pa_cons (pv 0) (pa_cons (pv 1) pa_nil))))
      (pss_cons (ps_set (i := 4) nd rfl (.inl rfl) (pe_lst pa_nil))
      (pss_cons (ps_for PassesOwn.never rfl (pi_range1 rfl N.range (pa_cons (pe_ix (r := rIxL K) ix_list (pe_lst (pa_cons pe_int (pa_cons pe_int (pa_cons pe_int (pa_cons pe_int pa_nil))))) (pe_call GD r1 (by rfl) gD kD bD .nil pass0 (pa_cons (pv 0) (pa_cons pe_int pa_nil))) (fun _ _ => rfl)) pa_nil)) (pg_name (i := 5) nd rfl (.inl rfl))
        (pss_one (ps_expr (pe_bm PySem.F.plainAttrs_list PySem.F.slot_list_append PySem.F.type_list_append mt_append (pv 4) (pa_cons (pe_call G3 hr (by rfl) g3 k3 b3 .nil pass0 (pa_cons (pv 0) (pa_cons (pv 2) (pa_cons (pv 3) (pa_cons pe_int pa_nil))))) pa_nil)))))
      (pss_one (ps_ret (pv 4))))))), ?_⟩
    refine ⟨_, rfl, b, c, 3, rfl, B, by decide, by decide, fun p ls H1 ll lnd lsub hp ep B1 K1 => ?_⟩
    have ll : ls.length = 3 := by omega
    have pb := B.neB hp
    have pc := B.neC hp
    refine name_go ?_
    dsimp only
    refine seq_go (asg_go ?_)
    refine ⟨_, rfl, _, rfl, b, c, m, rfl, B1, m6, fun nl ns H2 B2 K2 hnl nb nc enl lns nnd nok => ?_⟩
    have ep2 := K2 _ _ ep pb pc
    have pnl : p ≠ nl := ne_of_none ep hnl
    have En : Env3 b c p nl ls ns H2 := ⟨B2, ep2, enl, pb, pc, pnl, nb, nc, ll, lnd, lsub, nok, by omega⟩
    refine name_go ?_
    dsimp only
    refine seq_go (asg_go ?_)
    refine ⟨Nat.zero_le _, fun L hL => ?_⟩
    have s3 := same_new (o := .lst []) hL
    have En3 := En.same s3
    have eL : (upd H2 L (.lst [])) L = some (.lst (([] : List Addr).map V.ref)) := upd_same
    have Lb := En.bag.neB hL
    have Lc := En.bag.neC hL
    have Ln : L ≠ nl := Ne.symm (ne_of_none En.nms hL)
    have Lp : L ≠ p := Ne.symm (ne_of_none En.row hL)
    generalize upd H2 L (.lst []) = HL at En3 eL
    refine name_go ?_
    dsimp only
    refine seq_go ?_
    refine ⟨line_small (by show 4 ≤ 16777216; decide), fun l4 n4 => ?_⟩
    have s4 := same_new (o := .lst [.int 1, .int 2, .int 1, .int 3]) n4
    have En4 := En3.same s4
    refine ⟨_, rfl, b, c, 4, rfl, En4.bag, by decide, by decide, fun d H5 d0 d4 B5 K5 => ?_⟩
    obtain ⟨t, at_, t1, t3⟩ : ∃ t : Nat, atI [V.int 1, .int 2, .int 1, .int 3] d = some (.int (t : Nat)) ∧ 1 ≤ t ∧ t ≤ 3 := by
      have cs : d = 0 ∨ d = 1 ∨ d = 2 ∨ d = 3 := by omega
      rcases cs with rfl | rfl | rfl | rfl
      · exact ⟨1, rfl, by decide, by decide⟩
      · exact ⟨2, rfl, by decide, by decide⟩
      · exact ⟨1, rfl, by decide, by decide⟩
      · exact ⟨3, rfl, by decide, by decide⟩
    have En5 := En4.kept B5 K5
    refine ⟨l4, _, d, _, rfl, rfl, SqL.of (K5 _ _ upd_same (En3.bag.neB n4) (En3.bag.neC n4)), at_, t, rfl, by omega, by omega, ?_⟩
    have e5 := K5 _ _ (s4 _ _ eL) Lb Lc
    -- the base: the heap from here on
    have b5 : H5 b ≠ none := by obtain ⟨u1, u2, u3, u4⟩ := En5.bag.top; rw [u4]; exact fun z => by cases z
    have c5 : H5 c ≠ none := by obtain ⟨u1, u2⟩ := En5.bag.cells; rw [u2]; exact fun z => by cases z
    have n5 : H5 nl ≠ none := by rw [En5.nms]; exact fun z => by cases z
    have L5 : H5 L ≠ none := by rw [e5]; exact fun z => by cases z
    refine for_range (lo := 0) (n := ((t : Nat) : Int).toNat) (fun i σ H' => ∃ (x5 : Option V) (rs : List Addr) (pss : List (List Raw)) (ns' : List Str), σ = [some (.ref b), some (.int (m : Nat)), some (.ref p), some (.ref nl), some (.ref L), x5] ∧ Env3 b c p nl ls ns' H' ∧ (∀ x, H' x = none → H5 x = none) ∧ H' L = some (.lst (rs.map V.ref)) ∧ rs.length = i ∧ pss.length = i ∧
        (∀ (j : Nat) (r : Addr) (ps : List Raw), rs[j]? = some r → pss[j]? = some ps → H5 r = none ∧ RawL H5 H' r ps) ∧ (∀ ps ∈ pss, 1 ≤ ps.length ∧ ps.length ≤ 3 ∧ RawsOk ps ∧ ∀ r ∈ ps, FitR 3 r) ∧ (nmP pss ++ ns').Perm ns)
      ⟨none, [], [], ns, rfl, En5, fun x h => h, e5, rfl, rfl, (fun j r ps e => by cases e), (fun ps h => by cases h), List.Perm.refl _⟩ ?_ ?_
    · rintro i σ H6 hi ⟨x5, rs, pss, ns', rfl, En6, gr6, e6, lr, lp, each, ok6, pm6⟩
      rw [Int.toNat_natCast] at hi
      dsimp only
      refine ⟨.ref L, rfl, .inl ⟨rfl, _, SqL.of e6⟩, _, rfl, _, rfl, _, rfl, b, c, p, nl, ls, ns', rfl, by decide, En6, fun R ps xs ns2 H7 En7 K7 hR eR aR p1 p3 pok ppm pft => ?_⟩
      have e7 := K7 _ _ e6 Lb Lc Ln
      have RL : R ≠ L := Ne.symm (ne_of_none e6 hR)
      have ov : Over H5 H6 (upd H7 L (.lst (rs.map V.ref ++ [.ref R]))) := ⟨fun x o hx hxo => by
        rw [upd_ne (fun z => L5 (by rw [← z]; exact hx))]
        exact K7 x o hxo (fun z => b5 (by rw [← z]; exact hx)) (fun z => c5 (by rw [← z]; exact hx)) (fun z => n5 (by rw [← z]; exact hx)), fun x xs hx => by
        obtain ⟨u1, u2, u3, u4⟩ := En6.bag.top
        obtain ⟨u5, u6⟩ := En6.bag.cells
        rw [upd_ne (fun z => by rw [z, e6] at hx; cases hx)]
        exact K7 x _ hx (fun z => by rw [z, u4] at hx; cases hx) (fun z => by rw [z, u6] at hx; cases hx) (fun z => by rw [z, En6.nms] at hx; cases hx)⟩
      have ov7 : Over H5 H7 (upd H7 L (.lst (rs.map V.ref ++ [.ref R]))) := ⟨fun x o hx hxo => by rw [upd_ne (fun z => L5 (by rw [← z]; exact hx))]; exact hxo, fun x xs hx => by rw [upd_ne (fun z => by rw [z, e7] at hx; cases hx)]; exact hx⟩
      refine ⟨L, _, _, rfl, rfl, e7, by rw [List.length_map]; exact small1000 (by omega), ?_⟩
      refine ⟨_, rs ++ [R], pss ++ [ps], ns2, rfl, ?_, fun x hx => ?_, ?_, by rw [List.length_append, lr]; rfl, by rw [List.length_append, lp]; rfl, fun j r ps' er ep' => ?_, fun ps' hp' => ?_, ?_⟩
      · obtain ⟨⟨u1, u2, u3, u4⟩, ⟨u5, u6⟩⟩ := En7.bag
        exact ⟨⟨⟨u1, u2, u3, by rw [upd_ne (Ne.symm Lb)]; exact u4⟩, ⟨u5, by rw [upd_ne (Ne.symm Lc)]; exact u6⟩⟩, by rw [upd_ne (Ne.symm Lp)]; exact En7.row, by rw [upd_ne (Ne.symm Ln)]; exact En7.nms, En7.pb, En7.pc, En7.pn, En7.nb, En7.nc, En7.len, En7.nd, En7.sub, En7.nok, En7.few⟩
      · have nL : x ≠ L := fun z => by rw [z, upd_same] at hx; cases hx
        rw [upd_ne nL] at hx
        refine gr6 x ?_
        cases z : H6 x with
        | none => rfl
        | some o =>
          have := K7 x o z (En7.bag.neB hx) (En7.bag.neC hx) (Ne.symm (ne_of_none En7.nms hx))
          rw [hx] at this
          cases this
      · rw [upd_same, List.map_append]
        rfl
      · rcases Nat.lt_or_ge j rs.length with lt | ge
        · rw [List.getElem?_append_left lt] at er
          rw [List.getElem?_append_left (by omega)] at ep'
          obtain ⟨g1, xs1, g2, g3⟩ := each j r ps' er ep'
          exact ⟨g1, xs1, ov.new _ _ g1 g2, RawsAt.over ov _ _ g3⟩
        · rw [List.getElem?_append_right ge] at er
          rw [List.getElem?_append_right (by omega), lp, ← lr] at ep'
          have ej : j - rs.length = 0 := by
            obtain ⟨z, _⟩ := List.getElem?_eq_some_iff.mp er
            rw [List.length_singleton] at z
            omega
          rw [ej] at er ep'
          cases er
          cases ep'
          refine ⟨gr6 _ hR, xs, by rw [upd_ne RL]; exact eR, RawsAt.over ov7 _ _ (RawsAt.from gr6 _ _ aR)⟩
      · rcases List.mem_append.mp hp' with h | h
        · exact ok6 ps' h
        · rw [List.mem_singleton.mp h]
          exact ⟨p1, p3, pok, pft⟩
      · have e : nmP (pss ++ [ps]) = nmP pss ++ nmRs ps := by
          unfold nmP
          rw [List.flatMap_append, List.flatMap_cons, List.flatMap_nil, List.append_nil]
        rw [e, List.append_assoc]
        exact (List.Perm.append_left _ ppm).trans pm6
    · rintro σ H6 ⟨x5, rs, pss, ns', rfl, En6, gr6, e6, lr, lp, each, ok6, pm6⟩
      rw [Int.toNat_natCast] at lr lp
      have nn : (nmP pss ++ ns').Nodup := pm6.nodup_iff.mpr nnd
      have le := pm6.length_eq
      rw [List.length_append] at le
      exact ⟨_, rfl, q L pss H5 H6 ⟨rs, e6, by omega, fun j r ps e1 e2 => (each j r ps e1 e2).2⟩ ⟨by omega, by omega, ok6, (List.nodup_append.mp nn).1, by omega⟩⟩
end
end K14

set_option autoImplicit false
set_option maxErrors 4
namespace K14
open PySem PySem.Spec PyProof.Rows L2 Tl
/-! ### the items and the forms that the law makes -/
theorem join_keep (ps : List Itm) : (joinJ ps).filter (fun i => !isM i) = ps.filter (fun i => !isM i) := join_hom (fun l => l.filter fun i => !isM i) rfl (fun a b => List.filter_append a b) (fun a b => rfl) ps
theorem dep_join (ps : List Itm) : depL ps ≤ depL (joinJ ps) := depL_lt fun i hi => by
  cases hm : isM i with
  | true =>
    cases i with
    | mrk t => exact Nat.zero_le _
    | fld n r => cases hm
    | grp qs => cases hm
  | false =>
    have m : i ∈ ps.filter (fun i => !isM i) := List.mem_filter.mpr ⟨hi, by rw [hm]; rfl⟩
    rw [← join_keep] at m
    exact depL_le (List.mem_filter.mp m).1
theorem kindN_old {KC NC : Addr} {HB H0 H : Hp} {k : Addr} {rows : List RowL} (h : KindN KC NC H0 H k rows) (o : Old HB H0) : KindN KC NC HB H k rows := by
  obtain ⟨dk, t, n, rs, h1, h2, h3, h4, h5⟩ := h
  exact ⟨dk, t, n, rs, h1, h2, h3, h4, h5.from o⟩
theorem itms_snoc_stay {FC MC YC KC NC : Addr} {HB H H' : Hp} {ps : List Itm} {xs : List Addr} (h : ItmsAt FC MC YC KC NC HB H ps xs) (s : Stays H H') : ItmsAt FC MC YC KC NC HB H' ps xs := ItmsAt.stays s _ _ h
section
variable {P : Program} {w : World} {K : PySem.W.Frag} {mg : Str → Option Value} {base : Heap} {C KC NC FC MC YC OC : Addr} {HB : Hp}
def CanField (P : Program) (w : World) (K : PySem.W.Frag) (mg : Str → Option Value) (base : Heap) (FC KC NC : Addr) : Prop := ∃ f fd, Mk K FC f ∧ mg "Field" = some (.ref FC) ∧ Binds K fd ["self", "name", "kind"] [] ∧ FnOk P w K mg base CX0 7 f fd ["self", "name", "kind"] (spFinit FC KC NC)
def CanMaybe (P : Program) (w : World) (K : PySem.W.Frag) (mg : Str → Option Value) (base : Heap) (FC MC YC KC NC : Addr) (HB : Hp) : Prop := ∃ f fd, Mk K YC f ∧ mg "Maybe" = some (.ref YC) ∧ Binds K fd ["self", "parts"] [] ∧ FnOk P w K mg base CX0 7 f fd ["self", "parts"] (spYinit FC MC YC KC NC HB)
def spItems (FC MC YC KC NC : Addr) (HB : Hp) (d : Nat) : Sp := fun vs H Q _ => ∃ (r : Addr) (ps : List Raw) (HR : Hp), vs = [.ref r] ∧ RawL HR H r ps ∧ RawsOk ps ∧ depL (toIs ps) < d ∧ depL (toIs ps) ≤ 3 ∧ sizL (toIs ps) ≤ 200 ∧ ps.length ≤ 4 ∧ Old HB H ∧
  ∀ (l : Addr) (H' : Hp), Same H H' → H l = none → LstI FC MC YC KC NC HB H' l (toIs ps) → Q (.ref l) H'
theorem sizI_raw {ps : List Raw} {r : Raw} (h : r ∈ ps) : sizI (toI r) ≤ sizL (toIs ps) ∧ depI (toI r) ≤ depL (toIs ps) := by
  have m : toI r ∈ toIs ps := by
    rw [toIs_map]
    exact List.mem_map.mpr ⟨r, h, rfl⟩
  exact ⟨sizI_le m, depL_le m⟩
theorem rawsOk_mem : ∀ {ps : List Raw}, RawsOk ps → ∀ r ∈ ps, RawOk r
  | [], _, r, h => by cases h
  | a :: q, h, r, hr => by
    rcases List.mem_cons.mp hr with e | hr
    · rw [e]
      exact h.1
    · exact rawsOk_mem h.2 r hr
theorem RawsAt.elt {HR H : Hp} : ∀ {ps : List Raw} {xs : List Addr}, RawsAt HR H ps xs → ∀ {j : Nat} {x : V}, (xs.map V.ref)[j]? = some x → ∃ r a, x = .ref a ∧ ps[j]? = some r ∧ RawAt HR H r a
  | [], xs, h, j, x, hx => by
    rw [show xs = [] from h] at hx
    simp at hx
  | r :: q, xs, h, j, x, hx => by
    obtain ⟨a, as, e, h1, h2⟩ := h
    subst e
    cases j with
    | zero =>
      cases hx
      exact ⟨r, a, rfl, rfl, h1⟩
    | succ j => exact RawsAt.elt h2 hx
set_option maxHeartbeats 40000000 in
theorem ok_items {f : Addr} {fd : FuncData} (F : FnP K "_law_items" "_law_items" s_l_items f fd) (T : Town K mg C KC NC FC MC YC OC) (N : Nms mg) (MF : CanField P w K mg base FC KC NC) (MM : CanMark P w K mg base MC) (MY : CanMaybe P w K mg base FC MC YC KC NC HB) (KD : Can P w K mg base CX0 "_law_kind" ["_law_rows_here"] 9 (spKindD KC NC))
    (g : mg "_law_items" = some (.ref f)) (k : PySem.W.keepIn K (.ref f) = true) (b0 : Binds K fd ["_law_row_here"] []) : ∀ d, FnOk P w K mg base CX0 (9 + d) f fd ["_law_row_here"] (spItems FC MC YC KC NC HB d)
  | 0 => ⟨fun vs H Q E h => (by obtain ⟨_, _, _, _, _, _, h, _⟩ := h; omega), fun A outer s H args us vs Q E _ _ _ _ h => (by obtain ⟨_, _, _, _, _, _, h, _⟩ := h; omega)⟩
  | d + 1 => by
    have G := ok_items F T N MF MM MY KD g k b0 d
    obtain ⟨fF, fdF, M1, gF, b1, G1⟩ := MF
    obtain ⟨fM, fdM, M2, gM, b2, G2⟩ := MM
    obtain ⟨fY, fdY, M3, gY, b3, G3⟩ := MY
    obtain ⟨fK, fdK, GK, gK, kK, bK⟩ := KD
    have nd := sc_l_items.nd
    refine F.ok sc_l_items (fun vs H Q E h => ?_) (fun cdv A outer s H vs Q E hr h => ?_)
    · obtain ⟨r, ps, HR, rfl, _⟩ := h
      rfl
    · obtain ⟨r, ps, HR, rfl, ⟨xs, er, hR⟩, pok, dd, d3, siz, l4, old, q⟩ := h
      have r8 := hr.mono (show 8 ≤ 9 + d by omega)
      have r3 := hr.mono (show 3 ≤ 9 + d by omega)
      have r9 := hr.mono (show 9 ≤ 9 + d by omega)
      refine ⟨_, PSs.nox (pss_cons (ps_set (i := 1) nd rfl (.inl rfl) (pe_lst pa_nil)) (pss_cons (ps_for PassesOwn.never rfl (pi_list (pv 0)) (pg_name (i := 2) nd rfl (.inl rfl))
        (pss_one (ps_if (pt_cmpR op_eq (pe_ix (r := rIxT K) ix_tup (pv 2) pe_int (fun _ _ => rfl)) pe_str (nomark _))
          (pss_one (ps_expr (pe_bm PySem.F.plainAttrs_list PySem.F.slot_list_append PySem.F.type_list_append mt_append (pv 1) (pa_cons (pe_make M1 G1 r8 (by rfl) T.gF b1 .nil pass0 (pa_cons (pe_ix (r := rIxT K) ix_tup (pv 2) pe_int (fun _ _ => rfl)) (pa_cons (pe_call GK r9 (by rfl) gK kK bK .nil pass0 (pa_cons (pe_ix (r := rIxT K) ix_tup (pv 2) pe_int (fun _ _ => rfl)) pa_nil)) pa_nil))) pa_nil))))
          (pss_one (ps_if (pt_cmpR op_eq (pe_ix (r := rIxT K) ix_tup (pv 2) pe_int (fun _ _ => rfl)) pe_str (nomark _))
            (pss_one (ps_expr (pe_bm PySem.F.plainAttrs_list PySem.F.slot_list_append PySem.F.type_list_append mt_append (pv 1) (pa_cons (pe_make M2 G2 r3 (by rfl) T.gM b2 .nil pass0 (pa_cons (pe_ix (r := rIxT K) ix_tup (pv 2) pe_int (fun _ _ => rfl)) pa_nil)) pa_nil))))
            (pss_one (ps_expr (pe_bm PySem.F.plainAttrs_list PySem.F.slot_list_append PySem.F.type_list_append mt_append (pv 1) (pa_cons (pe_make M3 G3 r8 (by rfl) T.gY b3 .nil pass0 (pa_cons (pe_call G hr (by rfl) g k b0 .nil pass0 (pa_cons (pe_ix (r := rIxT K) ix_tup (pv 2) pe_int (fun _ _ => rfl)) pa_nil)) pa_nil)) pa_nil)))))))))
        (pss_one (ps_ret (pv 1))))), ?_⟩
      have lx : (xs.map V.ref).length = ps.length := by rw [List.length_map, hR.length]
      refine ⟨Nat.zero_le _, fun L hL => ?_⟩
      have s0 := same_new (o := .lst []) hL
      refine name_go ?_
      dsimp only
      refine seq_go ?_
      refine ⟨_, rfl, r, rfl, ⟨_, SqL.of (s0 _ _ er)⟩, ?_⟩
      refine for_list (xs := xs.map V.ref) (fun j σ H' => ∃ (x2 : Option V) (ys : List Addr), σ = [some (.ref r), some (.ref L), x2] ∧ Same H H' ∧ H' L = some (.lst (ys.map V.ref)) ∧ ItmsAt FC MC YC KC NC HB H' (toIs (ps.take j)) ys) ⟨none, [], rfl, s0, upd_same, rfl⟩ (fun j σ H' _ h => by
        obtain ⟨_, _, _, sm, _⟩ := h
        exact SqL.of (sm _ _ er)) ?_ ?_
      · rintro j x σ H3 hx ⟨x2, ys, rfl, sm, e3, hI⟩
        obtain ⟨rw', a, rfl, hj, hA⟩ := hR.elt hx
        have mem := List.mem_of_getElem? hj
        have hA3 := RawAt.over (over_same sm) _ _ hA
        obtain ⟨sz, dp⟩ := sizI_raw mem
        have rok := rawsOk_mem pok _ mem
        have tk : toIs (ps.take (j + 1)) = toIs (ps.take j) ++ [toI rw'] := by
          rw [List.take_add_one, hj, toIs_app]
          rfl
        have ly : ys.length ≤ 4 := by
          rw [hI.length, toIs_map, List.length_map, List.length_take]
          omega
        have sml : ((ys.map V.ref : List V)).length < sizeLine := by rw [List.length_map]; exact small1000 (by omega)
        -- an item more
        have fin : ∀ (H4 : Hp) (o : Addr) (y2 : Option V), Same H3 H4 → ItmAt FC MC YC KC NC HB H4 (toI rw') o → ∃ (x2 : Option V) (ys' : List Addr), [some (.ref r), some (.ref L), y2] = [some (.ref r), some (.ref L), x2] ∧ Same H (upd H4 L (.lst (ys.map V.ref ++ [.ref o]))) ∧ (upd H4 L (.lst (ys.map V.ref ++ [.ref o]))) L = some (.lst (ys'.map V.ref)) ∧ ItmsAt FC MC YC KC NC HB (upd H4 L (.lst (ys.map V.ref ++ [.ref o]))) (toIs (ps.take (j + 1))) ys' := fun H4 o y2 s4 hO => by
          have e4 := s4 _ _ e3
          have st : Stays H4 (upd H4 L (.lst (ys.map V.ref ++ [.ref o]))) := stays_lst e4
          refine ⟨y2, ys ++ [o], rfl, fun b u e => ?_, by rw [upd_same, List.map_append]; rfl, ?_⟩
          · rw [upd_ne (ne_of_none e hL)]
            exact s4 _ _ (sm _ _ e)
          · rw [tk]
            exact (ItmsAt.stays st _ _ (ItmsAt.same s4 _ _ hI)).snoc (ItmAt.stays st _ _ hO)
        refine name_go ?_
        dsimp only
        cases rw' with
        | f n rows =>
          obtain ⟨R, rs, t1, t2, t3, t4, rfl⟩ := hA3
          have dr : Drawn (rs.map (·.1)) := rok.2
          have l1 := dr.lo
          have l2 := dr.hi
          rw [List.length_map] at l1 l2
          refine ⟨_, rfl, a, _, 0, _, rfl, rfl, SqT.of t1, rfl, rfl, _, rfl, ?_⟩
          refine iteT ?_
          refine ⟨.ref L, rfl, .inl ⟨rfl, _, SqL.of e3⟩, ?_⟩
          refine ⟨_, rfl, a, _, 1, _, rfl, rfl, SqT.of t1, rfl, ?_⟩
          refine ⟨_, rfl, a, _, 2, _, rfl, rfl, SqT.of t1, rfl, ?_⟩
          refine ⟨R, rs, 12, rfl, t3, t4, l1, by omega, by omega, fun y hy => dr.g _ (List.mem_map.mpr ⟨y, hy, rfl⟩), fun ko H4 s4 hk => ?_⟩
          obtain ⟨nok, nne, nex⟩ := dr.net
          intro o dn ho hdn ne
          have sX : Same H4 (upd (upd H4 dn (.own o)) o (.ins FC dn [])) := fun c u z => by
            rw [upd_ne (ne_of_none z ho), upd_ne (ne_of_none z hdn)]
            exact z
          refine ⟨o, dn, ko, n, onceL (rs.map (·.1)), rfl, upd_same, rok.1, (hk.same sX).at, nex, fun H5 b5 e5 => ⟨rfl, ?_⟩⟩
          have s5 : Same H4 H5 := fun c u z => b5 c u (sX _ _ z) (ne_of_none z ho)
          have s35 := s4.trans s5
          refine ⟨L, _, _, rfl, rfl, s35 _ _ e3, sml, fin H5 o _ s35 ⟨dn, ko, e5, kindN_old (hk.same s5) (old.same sm), nok, nne⟩⟩
        | m t =>
          have t1 : H3 a = some (.tup [.str "m", .str t]) := hA3
          refine ⟨_, rfl, a, _, 0, _, rfl, rfl, SqT.of t1, rfl, rfl, _, rfl, ?_⟩
          refine iteF ?_
          refine ⟨_, rfl, a, _, 0, _, rfl, rfl, SqT.of t1, rfl, rfl, _, rfl, ?_⟩
          refine iteT ?_
          refine ⟨.ref L, rfl, .inl ⟨rfl, _, SqL.of e3⟩, ?_⟩
          refine ⟨_, rfl, a, _, 1, _, rfl, rfl, SqT.of t1, rfl, ?_⟩
          intro o dn ho hdn ne
          have sX : Same H3 (upd (upd H3 dn (.own o)) o (.ins MC dn [])) := fun c u z => by
            rw [upd_ne (ne_of_none z ho), upd_ne (ne_of_none z hdn)]
            exact z
          refine ⟨o, dn, t, rfl, upd_same, rok, fun H5 b5 e5 => ⟨rfl, ?_⟩⟩
          have s5 : Same H3 H5 := fun c u z => b5 c u (sX _ _ z) (ne_of_none z ho)
          exact ⟨L, _, _, rfl, rfl, s5 _ _ e3, sml, fin H5 o _ s5 ⟨dn, e5, rok⟩⟩
        | o qs =>
          obtain ⟨l, zs, t1, t2, t3, t4⟩ := hA3
          refine ⟨_, rfl, a, _, 0, _, rfl, rfl, SqT.of t1, rfl, rfl, _, rfl, ?_⟩
          refine iteF ?_
          refine ⟨_, rfl, a, _, 0, _, rfl, rfl, SqT.of t1, rfl, rfl, _, rfl, ?_⟩
          refine iteF ?_
          refine ⟨.ref L, rfl, .inl ⟨rfl, _, SqL.of e3⟩, ?_⟩
          refine ⟨_, rfl, a, _, 1, _, rfl, rfl, SqT.of t1, rfl, ?_⟩
          have dp : 1 + depL (joinJ (toIs qs)) ≤ depL (toIs ps) := dp
          have dj := dep_join (toIs qs)
          have sz : sizL (joinJ (toIs qs)) ≤ sizL (toIs ps) := sz
          rw [join_siz] at sz
          refine ⟨l, qs, HR, rfl, ⟨zs, t3, t4⟩, rok.1, by omega, by omega, by omega, rok.2.2, old.same sm, fun l2 H4 s4 nl hl => ?_⟩
          intro o dn ho hdn ne
          have sX : Same H4 (upd (upd H4 dn (.own o)) o (.ins YC dn [])) := fun c u z => by
            rw [upd_ne (ne_of_none z ho), upd_ne (ne_of_none z hdn)]
            exact z
          have own := rok.2.1
          refine ⟨o, dn, l2, toIs qs, rfl, upd_same, hl.same sX, (fun z => by rw [z] at own; cases own), own, by omega, by omega, fun H5 b5 e5 => ⟨rfl, ?_⟩⟩
          have s5 : Same H4 H5 := fun c u z => b5 c u (sX _ _ z) (ne_of_none z ho)
          have s35 := s4.trans s5
          exact ⟨L, _, _, rfl, rfl, s35 _ _ e3, sml, fin H5 o _ s35 e5⟩
      · rintro σ H3 ⟨x2, ys, rfl, sm, e3, hI⟩
        rw [lx, List.take_of_length_le (Nat.le_refl _)] at hI
        exact ⟨_, rfl, q L H3 sm hL ⟨ys, e3, hI, by rw [toIs_map, List.length_map]; omega⟩⟩
def spMakeR (FC MC YC KC NC OC : Addr) (HB : Hp) : Sp := fun vs H Q _ => ∃ (R : Addr) (pss : List (List Raw)) (HR : Hp), vs = [.ref R] ∧ RawLin HR H R pss ∧ PssOk pss ∧ Old HB H ∧ ∀ (o : Addr) (H' : Hp), Same H H' → H o = none → FormAt FC MC YC KC NC OC HB H' o ((pss.map toIs).map joinJ) → Q (.ref o) H'
set_option maxHeartbeats 20000000 in
theorem ok_make {f : Addr} {fd : FuncData} (F : FnP K "_law_make" "_law_make" s_l_make f fd) (T : Town K mg C KC NC FC MC YC OC) (MO : CanForm P w K mg base FC MC YC KC NC OC HB) (C1 : Can P w K mg base CX0 "_law_items" ["_law_row_here"] 13 (spItems FC MC YC KC NC HB 4)) : FnOk P w K mg base CX0 16 f fd ["_law_lines_here"] (spMakeR FC MC YC KC NC OC HB) := by
  obtain ⟨fO, fdO, M, gO, b, G⟩ := MO
  obtain ⟨f1, fd1, G1, g1, k1, b1⟩ := C1
  have nd := sc_l_make.nd
  refine F.ok sc_l_make (fun vs H Q E h => ?_) (fun cdv A outer s H vs Q E hr h => ?_)
  · obtain ⟨R, pss, HR, rfl, _⟩ := h
    rfl
  · obtain ⟨R, pss, HR, rfl, ⟨rs, eR, lr, each⟩, ok, old, q⟩ := h
    refine ⟨_, PSs.nox (pss_one (ps_ret (pe_make M G hr (by rfl) T.gO b .nil pass0 (pa_cons (pe_lc (own := [("_law_line", 1)]) (g := gName 1) (tt := tYes) (te := tCall (spItems FC MC YC KC NC HB 4) [] E0 (tCons (tVar 1) tNil)) rfl nd (pi_list (pv 0)) (blkOk_by (N := ["_law_lines_here", "_law_line"]) (sc := defScope s_l_make) (by decide +kernel)) (fun _ _ _ _ _ => pg_name (i := 1) nd rfl (Or.inl rfl)) (fun _ _ _ _ _ => pts_nil)
      (fun _ _ _ _ _ => pe_call G1 (hr.mono (by decide)) (by rfl) g1 k1 b1 .nil pass0 (pa_cons (pv 1) pa_nil))) pa_nil)))), ?_⟩
    have lx : (rs.map V.ref).length = pss.length := by rw [List.length_map, lr]
    have hi := ok.hi
    refine ⟨_, rfl, R, rfl, ⟨_, SqL.of eR⟩, fun D hD => ?_⟩
    refine lc_it (n := (rs.map V.ref).length) (walk_list (K := K) (xs := rs.map V.ref)) (fun j H' => ∃ acc : List Addr, H' D = some (.lst (acc.map V.ref)) ∧ acc.length = j ∧ Same H H' ∧ ∀ (i : Nat) (r : Addr) (ps : List Raw), acc[i]? = some r → pss[i]? = some ps → r ≠ D ∧ LstI FC MC YC KC NC HB H' r (toIs ps)) ⟨[], upd_same, rfl, same_new hD, fun i r ps e => by cases e⟩ (fun j H' _ h => by
      obtain ⟨_, _, _, sm, _⟩ := h
      exact SqL.of (K := K) (sm _ _ eR)) ?_ ?_
    · rintro j y _ H3 hj ⟨acc, e3, la, sm, hA⟩ ⟨rfl, hy⟩
      have hy : (rs.map V.ref)[j]? = some y := hy
      have hjr : j < rs.length := by rw [List.length_map] at hj; exact hj
      have ey : y = .ref rs[j] := by
        rw [List.getElem?_map, List.getElem?_eq_getElem hjr] at hy
        exact (Option.some.inj hy).symm
      subst ey
      have hjp : j < pss.length := by omega
      have hp : pss[j]? = some pss[j] := List.getElem?_eq_getElem hjp
      have mem : pss[j] ∈ pss := List.getElem_mem _
      obtain ⟨o1, o2, o3, o4⟩ := ok.each _ mem
      have dp := dep_toIs o4
      have sz := siz_raws fun r hr => (o4 r hr).2
      have nm : (nmRs pss[j]).length ≤ (nmP pss).length := by
        unfold nmP
        rw [List.length_flatMap]
        exact sum_mem (List.mem_map.mpr ⟨_, mem, rfl⟩)
      have few := ok.few
      refine ⟨rfl, yes_keep ?_⟩
      refine ⟨_, rfl, rs[j], pss[j], HR, rfl, (each j _ _ (List.getElem?_eq_getElem hjr) hp).same sm, o3, by omega, dp, by omega, by omega, old.same sm, fun l H4 s4 nl hl => ?_⟩
      have e4 := s4 _ _ e3
      have nD : l ≠ D := Ne.symm (ne_of_none e3 nl)
      have st : Stays H4 (upd H4 D (.lst (acc.map V.ref ++ [V.ref l]))) := stays_lst e4
      have keep : ∀ {r : Addr} {is : List Itm}, r ≠ D → LstI FC MC YC KC NC HB H4 r is → LstI FC MC YC KC NC HB (upd H4 D (.lst (acc.map V.ref ++ [V.ref l]))) r is := fun {r is} n h => by
        obtain ⟨zs, h1, h2, h3⟩ := h
        exact ⟨zs, by rw [upd_ne n]; exact h1, ItmsAt.stays st _ _ h2, h3⟩
      refine ⟨acc.map V.ref, e4, by rw [List.length_map]; exact small1000 (by omega), acc ++ [l], by rw [upd_same, List.map_append]; rfl, by rw [List.length_append, la]; rfl, fun b o z => ?_, fun i r ps er ep => ?_⟩
      · rw [upd_ne (ne_of_none z hD)]
        exact s4 _ _ (sm _ _ z)
      · rcases Nat.lt_or_ge i acc.length with lt | ge
        · rw [List.getElem?_append_left lt] at er
          obtain ⟨n1, h1⟩ := hA i r ps er ep
          exact ⟨n1, keep n1 (h1.same s4)⟩
        · have ei : i = acc.length := by
            obtain ⟨z, _⟩ := List.getElem?_eq_some_iff.mp er
            rw [List.length_append, List.length_singleton] at z
            omega
          subst ei
          rw [List.getElem?_append_right (Nat.le_refl _), Nat.sub_self] at er
          rw [la, hp] at ep
          cases er
          cases ep
          exact ⟨nD, keep nD hl⟩
    rintro H3 ⟨acc, e3, la, sm, hA⟩
    rw [lx] at la
    intro o dn ho hdn ne
    have sX : Same H3 (upd (upd H3 dn (.own o)) o (.ins OC dn [])) := fun c u z => by
      rw [upd_ne (ne_of_none z ho), upd_ne (ne_of_none z hdn)]
      exact z
    have s2 := sm.trans sX
    refine ⟨o, dn, D, pss.map toIs, rfl, upd_same, ⟨acc, .inl (sX _ _ e3), by rw [List.length_map, la], fun j r is er ep => ?_⟩, ok.lines, old.same s2, fun H4 b4 fo => ⟨rfl, ?_⟩⟩
    · rw [List.getElem?_map] at ep
      obtain ⟨ps, ep2, rfl⟩ := Option.map_eq_some_iff.mp ep
      exact ((hA j r ps er ep2).2.same sX).row
    · exact q o H4 (fun c u z => b4 c u (s2 _ _ z) (ne_of_none (sm _ _ z) ho)) (sm.free ho) fo
theorem PssOk.one {pss : List (List Raw)} (h : PssOk pss) {ps : List Raw} (m : ps ∈ pss) : PssOk [ps] := by
  have sub : (nmP [ps]).Sublist (nmP pss) := by
    unfold nmP
    rw [List.flatMap_cons, List.flatMap_nil, List.append_nil]
    obtain ⟨a, b, rfl⟩ := List.append_of_mem m
    rw [List.flatMap_append, List.flatMap_cons]
    exact (List.sublist_append_left _ _).trans (List.sublist_append_right _ _)
  exact ⟨Nat.le_refl _, by show 1 ≤ 3; decide, fun q hq => by rw [List.mem_singleton.mp hq]; exact h.each ps m, h.nd.sublist sub, Nat.le_trans sub.length_le h.few⟩
end
end K14

set_option autoImplicit false
set_option maxErrors 4
namespace K14
open PySem PySem.Spec PyProof.Rows L2 Tl
/-! ### the law's own reckoning with alternatives -/
/-- alternatives in a list -/
structure RL (H : Hp) (a : Addr) (rs : Rws) : Prop where
  at_ : H a = some (.lst (rowsV rs))
  ok : RowsAt H rs
  tx : ∀ x ∈ rs, TxR x.1
  ne : ∀ x ∈ rs, x.1 ≠ []
  few : rs.length ≤ 1000
theorem RL.same {H H' : Hp} {a : Addr} {rs : Rws} (h : RL H a rs) (s : Same H H') : RL H' a rs := ⟨s _ _ h.at_, h.ok.same s, h.tx, h.ne, h.few⟩
theorem rowsV_len (rs : Rws) : (rowsV rs).length = rs.length := List.length_map _
theorem rowsV_get {rs : Rws} {i : Nat} {x : V} (h : (rowsV rs)[i]? = some x) : ∃ hi : i < rs.length, x = .ref rs[i].2 := by
  have z := List.getElem?_eq_some_iff.mp h
  obtain ⟨z, _⟩ := z
  have hi : i < rs.length := by rw [rowsV_len] at z; exact z
  refine ⟨hi, ?_⟩
  unfold rowsV at h
  rw [List.getElem?_map, List.getElem?_eq_getElem hi] at h
  exact (Option.some.inj h).symm
theorem any_row (l : List RowL) (r : RowL) : (l.map rowD).any (fun z => PyData.eqv z (rowD r)) = decide (r ∈ l) := by
  rw [List.any_map, Bool.eq_iff_iff, List.any_eq_true, decide_eq_true_eq]
  constructor
  · rintro ⟨y, hy, e⟩
    have e : PyData.eqv (rowD y) (rowD r) = true := e
    rw [eqv_row, decide_eq_true_eq] at e
    rw [← e]
    exact hy
  · intro h
    refine ⟨r, h, ?_⟩
    show PyData.eqv (rowD r) (rowD r) = true
    rw [eqv_row]
    simp
section
variable {P : Program} {w : World} {K : PySem.W.Frag} {mg : Str → Option Value} {base : Heap} {NC KC BK C : Addr}
/-- a new list of the alternatives rows -/
abbrev GivesRL (H : Hp) (Q : VK) (rows : List RowL) : Prop := ∀ (p : Addr) (ks : Rws) (H' : Hp), Same H H' → H p = none → RL H' p ks → ks.map (·.1) = rows → Q (.ref p) H'
def spKept : Sp := fun vs H Q _ => ∃ (a : Addr) (rs : Rws), vs = [.ref a] ∧ RL H a rs ∧ GivesRL H Q (onceL (rs.map (·.1)))
set_option maxHeartbeats 20000000 in
theorem ok_kept {f : Addr} {fd : FuncData} (F : FnP K "_law_kept" "_law_kept" s_l_kept f fd) : FnOk P w K mg base CX0 1 f fd ["_law_rows_here"] spKept := by
  have nd := sc_l_kept.nd
  refine F.ok sc_l_kept (fun vs H Q E h => ?_) (fun cdv A outer s H vs Q E hr h => ?_)
  · obtain ⟨a, rs, rfl, _⟩ := h
    rfl
  · obtain ⟨a, rs, rfl, rl, q⟩ := h
    have hu : (A.deeper (envOfC "_law_kept" (defScope s_l_kept) s.heap.objs.size f cdv)).units + 65 < cLine := by have := hr.un; omega
    refine ⟨_, PSs.nox (pss_cons (ps_set (i := 1) nd rfl (.inl rfl) (pe_lst pa_nil))
      (pss_cons (ps_for PassesOwn.never rfl (pi_list (pv 0)) (pg_name (i := 2) nd rfl (.inl rfl))
        (pss_one (ps_if (pt_cmpR (r := rNotInD K) (op_notInD hu) (pv 2) (pv 1) rfl) (pss_one (ps_expr (pe_bm PySem.F.plainAttrs_list PySem.F.slot_list_append PySem.F.type_list_append mt_append (pv 1) (pa_cons (pv 2) pa_nil)))) pss_nil)))
      (pss_one (ps_ret (pv 1))))), ?_⟩
    refine ⟨Nat.zero_le _, fun p hp => ?_⟩
    have s1 := same_new (o := .lst []) hp
    refine ⟨_, rfl, a, rfl, ⟨_, SqL.of (s1 _ _ rl.at_)⟩, ?_⟩
    refine for_list (xs := rowsV rs) (fun i σ H' => ∃ (ks : Rws) (x2 : Option V), σ = [some (.ref a), some (.ref p), x2] ∧ Same H H' ∧ RL H' p ks ∧ ks.length ≤ i ∧ ks.map (·.1) = ((rs.map (·.1)).take i).foldl putL []) ⟨[], none, rfl, s1, ⟨upd_same, (fun x hx => by cases hx), by simp, by simp, Nat.zero_le _⟩, Nat.le_refl _, rfl⟩ (fun i σ H' _ h => by
      obtain ⟨_, _, _, sm, _⟩ := h
      exact SqL.of (sm _ _ rl.at_)) ?_ ?_
    · rintro i x σ H1 hx ⟨ks, x2, rfl, sm, kl, kn, ke⟩
      obtain ⟨hi, rfl⟩ := rowsV_get hx
      have nk := (rl.ok.same sm) _ (List.getElem_mem hi)
      have tx := rl.tx _ (List.getElem_mem hi)
      have ti : ((rs.map (·.1)).take (i + 1)).foldl putL [] = putL (ks.map (·.1)) rs[i].1 := by
        rw [List.take_add_one, List.getElem?_map, List.getElem?_eq_getElem hi, List.foldl_append, ← ke]
        rfl
      refine ⟨_, rfl, _, rfl, rowD rs[i].1, (ks.map (·.1)).map rowD, row_dp nk, .lst (SqL.of kl.at_) (rows_dp kl.ok), shaped_of (rowD_ok tx) (by decide), listD_ok (fun r hr => by
        obtain ⟨y, hy, rfl⟩ := List.mem_map.mp hr
        exact kl.tx y hy), _, rfl, ?_⟩
      rw [any_row]
      by_cases m : rs[i].1 ∈ ks.map (·.1)
      · rw [decide_eq_true m]
        refine iteF ⟨ks, _, rfl, sm, kl, by omega, ?_⟩
        rw [ti]
        unfold putL
        rw [if_pos m]
      · rw [decide_eq_false m]
        refine iteT ?_
        have few := rl.few
        refine ⟨.ref p, rfl, .inl ⟨rfl, _, SqL.of kl.at_⟩, _, rfl, p, _, _, rfl, rfl, kl.at_, by rw [rowsV_len]; exact small1000 (by omega), ?_⟩
        have tp := upd_tups (u := .lst (rowsV ks ++ [.ref rs[i].2])) kl.at_
        refine ⟨ks ++ [rs[i]], _, rfl, fun x o e => ?_, ⟨?_, ?_, ?_, ?_, ?_⟩, by rw [List.length_append, List.length_singleton]; omega, ?_⟩
        · rw [upd_ne (ne_of_none e hp)]
          exact sm _ _ e
        · rw [upd_same]
          unfold rowsV
          rw [List.map_append]
          rfl
        · intro y hy
          rcases List.mem_append.mp hy with hy | hy
          · exact nkT tp _ _ (kl.ok y hy)
          · rw [List.mem_singleton.mp hy]
            exact nkT tp _ _ nk
        · intro y hy
          rcases List.mem_append.mp hy with hy | hy
          · exact kl.tx y hy
          · rw [List.mem_singleton.mp hy]
            exact tx
        · intro y hy
          rcases List.mem_append.mp hy with hy | hy
          · exact kl.ne y hy
          · rw [List.mem_singleton.mp hy]
            exact rl.ne _ (List.getElem_mem hi)
        · rw [List.length_append, List.length_singleton]
          omega
        · rw [ti, List.map_append]
          unfold putL
          rw [if_neg m]
          rfl
    · rintro σ H1 ⟨ks, x2, rfl, sm, kl, kn, ke⟩
      have ef : (rs.map (·.1)).take (rowsV rs).length = rs.map (·.1) := List.take_of_length_le (by rw [rowsV_len, List.length_map]; exact Nat.le_refl _)
      rw [ef] at ke
      exact ⟨_, rfl, q p ks H1 sm hp kl ke⟩
end
end K14

set_option autoImplicit false
set_option maxErrors 4
namespace K14
open PySem PySem.Spec PyProof.Rows L2 Tl
/-! ### the places of a kind, by the law -/
def chR (r : RowL) : List Str := r.flatMap fun x => List.replicate (pcL x.2.1 x.2.2) x.1
theorem chR_len (r : RowL) : (chR r).length = (placesR r).sum := by
  unfold chR placesR
  induction r with
  | nil => rfl
  | cons x r ih =>
    rw [List.flatMap_cons, List.length_append, List.length_replicate, ih]
    rfl
theorem chR_take (r : RowL) (j : Nat) : (chR (r.take j)).length ≤ (chR r).length := by
  have e : r = r.take j ++ r.drop j := (List.take_append_drop j r).symm
  conv => rhs; rw [e]
  unfold chR
  rw [List.flatMap_append, List.length_append]
  omega
theorem chK_take (rows : List RowL) (j : Nat) : ((rows.take j).flatMap chR).length ≤ (rows.flatMap chR).length := by
  have e : rows = rows.take j ++ rows.drop j := (List.take_append_drop j rows).symm
  conv => rhs; rw [e]
  rw [List.flatMap_append, List.length_append]
  omega
theorem kind_chR (rows : List RowL) : (kindN rows).chars = rows.flatMap chR := kind_chars rows
section
variable {P : Program} {w : World} {K : PySem.W.Frag} {mg : Str → Option Value} {base : Heap}
def spKp : Sp := fun vs H Q _ => ∃ (a : Addr) (rs : Rws), vs = [.ref a] ∧ H a = some (.lst (rowsV rs)) ∧ RowsAt H rs ∧ Drawn (rs.map (·.1)) ∧ ∀ (p : Addr) (H' : Hp), Same H H' → H p = none → H' p = some (.lst (strsV (kindN (onceL (rs.map (·.1)))).chars)) → Q (.ref p) H'
set_option maxHeartbeats 20000000 in
theorem ok_kp {f : Addr} {fd : FuncData} (F : FnP K "_law_kind_places" "_law_kind_places" s_l_kind_places f fd) (N : Nms mg) (C1 : Can P w K mg base CX0 "_law_kept" ["_law_rows_here"] 1 spKept) : FnOk P w K mg base CX0 2 f fd ["_law_rows_here"] spKp := by
  obtain ⟨f1, fd1, G1, g1, k1, b1⟩ := C1
  have nd := sc_l_kind_places.nd
  refine F.ok sc_l_kind_places (fun vs H Q E h => ?_) (fun cdv A outer s H vs Q E hr h => ?_)
  · obtain ⟨a, rs, rfl, _⟩ := h
    rfl
  · obtain ⟨a, rs, rfl, ha, hat, dr, q⟩ := h
    have rl : RL H a rs := ⟨ha, hat, fun x hx => fun y hy => ((dr.g _ (List.mem_map.mpr ⟨x, hx, rfl⟩)).all y hy).txok, fun x hx => (dr.g _ (List.mem_map.mpr ⟨x, hx, rfl⟩)).ne, by have := dr.hi; rw [List.length_map] at this; omega⟩
    have len24 := dr.len
    refine ⟨_, PSs.nox (pss_cons (ps_set (i := 1) nd rfl (.inl rfl) (pe_lst pa_nil))
      (pss_cons (ps_for PassesOwn.never rfl (pi_list (pe_call G1 hr (by rfl) g1 k1 b1 .nil pass0 (pa_cons (pv 0) pa_nil))) (pg_name (i := 2) nd rfl (.inl rfl))
        (pss_one (ps_for PassesOwn.never rfl (pi_tup (pv 2)) (pg_tup rfl (pgs_cons (pg_name (i := 3) nd rfl (.inl rfl) (.inr rfl)) (pgs_cons (pg_name (i := 4) nd rfl (.inl rfl) (.inr rfl)) (pgs_cons (pg_name (i := 5) nd rfl (.inl rfl) (.inr rfl)) pgs_nil))))
          (pss_cons (ps_set (i := 6) nd rfl (.inl rfl) (pv 5))
          (C8.pss_cut (ps_if (pt_cmpR op_isN (pv 5) pe_non (nomark _)) (pss_one (ps_set (i := 6) nd rfl (.inl rfl) (pe_callB (call_max2 rfl) (by rfl) N.max (by decide +kernel) (pa_cons (pv 4) (pa_cons pe_int pa_nil))))) pss_nil)
          (pss_one (ps_set (i := 1) nd rfl (.inl rfl) (pe_op op_cat (pv 1) (pe_op op_rep (pe_lst (pa_cons (pv 3) pa_nil)) (pv 6))))))))))
      (pss_one (ps_ret (pv 1))))), ?_⟩
    refine ⟨Nat.zero_le _, fun L hL => ?_⟩
    have s0 := same_new (o := .lst []) hL
    refine name_go ?_
    dsimp only
    refine seq_go ?_
    refine ⟨_, rfl, a, rs, rfl, rl.same s0, fun p ks H1 s1 hp kl ke => ?_⟩
    have e1 := s1 _ _ (upd_same (H := H) (a := L) (o := .lst []))
    have s01 := s0.trans s1
    have ck : (kindN (onceL (rs.map (·.1)))).chars = (ks.map (·.1)).flatMap chR := by rw [kind_chR, ke]
    rw [ck] at q len24
    refine ⟨p, rfl, ⟨_, SqL.of kl.at_⟩, ?_⟩
    refine for_list (xs := rowsV ks) (fun i σ H' => ∃ (F : Addr) (x2 x3 x4 x5 x6 : Option V), σ = [some (.ref a), some (.ref F), x2, x3, x4, x5, x6] ∧ Same H1 H' ∧ H F = none ∧ H' F = some (.lst (strsV (((ks.map (·.1)).take i).flatMap chR)))) ⟨L, none, none, none, none, none, rfl, Same.refl H1, hL, e1⟩ (fun i σ H' _ h => by
      obtain ⟨_, _, _, _, _, _, _, sm, _⟩ := h
      exact SqL.of (sm _ _ kl.at_)) ?_ ?_
    · rintro i x σ H2 hx ⟨F, x2, x3, x4, x5, x6, rfl, sm, hF, eF⟩
      obtain ⟨hi, rfl⟩ := rowsV_get hx
      obtain ⟨bs, b1', b2, b3⟩ := row_at ((kl.ok.same sm) _ (List.getElem_mem hi))
      have nb : bs.length = ks[i].1.length := by rw [← b1', List.length_map]
      have nv : (runsV bs).length = bs.length := List.length_map _
      have ti : ((ks.map (·.1)).take (i + 1)).flatMap chR = ((ks.map (·.1)).take i).flatMap chR ++ chR ks[i].1 := by
        rw [List.take_add_one, List.getElem?_map, List.getElem?_eq_getElem hi, List.flatMap_append]
        show _ ++ [ks[i].1].flatMap chR = _
        rw [List.flatMap_cons, List.flatMap_nil, List.append_nil]
      have tle := chK_take (ks.map (·.1)) (i + 1)
      rw [ti, List.length_append] at tle
      generalize hbase : ((ks.map (·.1)).take i).flatMap chR = old at eF ti tle
      refine name_go ?_
      dsimp only
      refine ⟨_, rfl, ks[i].2, rfl, ⟨_, SqT.of b2⟩, ?_⟩
      refine for_tup (xs := runsV bs) (fun j σ H' => ∃ (F : Addr) (y3 y4 y5 y6 : Option V), σ = [some (.ref a), some (.ref F), some (.ref ks[i].2), y3, y4, y5, y6] ∧ Same H2 H' ∧ H F = none ∧ H' F = some (.lst (strsV (old ++ chR (ks[i].1.take j))))) ⟨F, x3, x4, x5, x6, rfl, Same.refl H2, hF, by rw [List.take_zero]; show H2 F = some (.lst (strsV (old ++ []))); rw [List.append_nil]; exact eF⟩ (fun j σ H' _ h => by
        obtain ⟨_, _, _, _, _, _, sm, _⟩ := h
        exact SqT.of (sm _ _ b2)) ?_ ?_
      · rintro j y σ H3 hy ⟨F, y3, y4, y5, y6, rfl, sm2, hF, eF⟩
        have hj : j < bs.length := by
          obtain ⟨z, _⟩ := List.getElem?_eq_some_iff.mp hy
          rw [nv] at z
          exact z
        have ey : y = .ref bs[j].2 := by
          unfold runsV at hy
          rw [List.getElem?_map, List.getElem?_eq_getElem hj] at hy
          exact (Option.some.inj hy).symm
        subst ey
        have ra : H3 bs[j].2 = some (.tup [.str bs[j].1.1, .int (bs[j].1.2.1 : Nat), mostV bs[j].1.2.2]) := sm2 _ _ (b3 _ (List.getElem_mem hj))
        have er : ks[i].1[j]? = some bs[j].1 := by
          rw [← b1', List.getElem?_map, List.getElem?_eq_getElem hj]
          rfl
        have et : chR (ks[i].1.take (j + 1)) = chR (ks[i].1.take j) ++ List.replicate (pcL bs[j].1.2.1 bs[j].1.2.2) bs[j].1.1 := by
          rw [List.take_add_one, er]
          unfold chR
          rw [List.flatMap_append]
          show _ ++ [bs[j].1].flatMap _ = _
          rw [List.flatMap_cons, List.flatMap_nil, List.append_nil]
        have tj := chR_take ks[i].1 (j + 1)
        rw [et, List.length_append, List.length_replicate] at tj
        refine ⟨bs[j].2, _, rfl, SqT.of ra, rfl, _, _, rfl, _, _, rfl, _, _, rfl, rfl, ?_⟩
        refine asg_go ?_
        refine ⟨_, rfl, ?_⟩
        refine name_go ?_
        dsimp only
        generalize hrun : bs[j].1 = run at ra er et tj
        obtain ⟨s1', l, m⟩ := run
        dsimp only at et tj
        refine ⟨fun σ' H' => H' = H3 ∧ σ' = [some (.ref a), some (.ref F), some (.ref ks[i].2), some (.str s1'), some (.int (l : Nat)), some (mostV m), some (.int ((pcL l m : Nat) : Int))], ?_, ?_⟩
        · cases m with
          | none =>
            refine ⟨_, rfl, rfl, _, rfl, iteT ?_⟩
            refine asg_go ?_
            refine ⟨_, rfl, (l : Int), 1, rfl, ?_⟩
            refine name_go ?_
            dsimp only
            refine ⟨rfl, ?_⟩
            have e : (if (1 : Int) > (l : Int) then (1 : Int) else (l : Int)) = ((pcL l none : Nat) : Int) := by
              have e2 : pcL l none = max l 1 := rfl
              rw [e2]
              split <;> omega
            exact congrArg (fun z : Int => [some (V.ref a), some (V.ref F), some (V.ref ks[i].2), some (V.str s1'), some (V.int (l : Nat)), some V.non, some (V.int z)]) e
          | some m =>
            refine ⟨_, rfl, rfl, _, rfl, iteF ?_⟩
            exact ⟨rfl, rfl⟩
        · rintro σ' H4 ⟨rfl, rfl⟩
          refine asg_go ?_
          refine ⟨_, rfl, _, rfl, line_small (by show 1 ≤ 16777216; decide), fun p1 n1 => ?_⟩
          have t1 := same_new (o := .lst [.str s1']) n1
          refine ⟨_, rfl, p1, ((pcL l m : Nat) : Int), [.str s1'], rfl, rfl, upd_same, by omega, by omega, ?_, fun p2 n2 => ?_⟩
          · rw [Int.toNat_natCast]
            exact line_small (by show 1 * pcL l m ≤ 16777216; omega)
          rw [Int.toNat_natCast, rep_flat]
          have t2 := same_new (o := .lst (List.replicate (pcL l m) (V.str s1'))) n2
          have t12 := t1.trans t2
          refine ⟨F, p2, _, _, rfl, rfl, t12 _ _ eF, upd_same, ?_, fun p3 n3 => ?_⟩
          · unfold strsV
            rw [List.length_map, List.length_append, List.length_replicate]
            exact line_small (by omega)
          refine name_go ?_
          dsimp only
          have t3 := same_new (o := .lst (strsV (old ++ chR (ks[i].1.take j)) ++ List.replicate (pcL l m) (V.str s1'))) n3
          have sA := (s01.trans sm).trans (sm2.trans t12)
          refine ⟨p3, _, _, _, _, rfl, (sm2.trans t12).trans t3, sA.free n3, ?_⟩
          rw [upd_same, et]
          unfold strsV
          rw [← List.append_assoc, List.map_append, List.map_append, List.map_append, List.map_replicate]
      · rintro σ H3 ⟨F, y3, y4, y5, y6, rfl, sm2, hF, eF⟩
        have ef : ks[i].1.take (runsV bs).length = ks[i].1 := List.take_of_length_le (by rw [nv, nb]; exact Nat.le_refl _)
        rw [ef, ← ti] at eF
        exact ⟨F, _, _, _, _, _, rfl, sm.trans sm2, hF, eF⟩
    · rintro σ H2 ⟨F, x2, x3, x4, x5, x6, rfl, sm, hF, eF⟩
      have ef : (ks.map (·.1)).take (rowsV ks).length = ks.map (·.1) := List.take_of_length_le (by rw [rowsV_len, List.length_map]; exact Nat.le_refl _)
      rw [ef] at eF
      exact ⟨_, rfl, q F H2 (s01.trans sm) hF eF⟩
end
end K14

set_option autoImplicit false
set_option maxErrors 4
namespace K14
open PySem PySem.Spec PyProof.Rows L2 Tl
/-! ### the places of a row, by the law -/
mutual
theorem chrI_len : ∀ i : Itm, (chrI i).length = sizI i
  | .fld n r => rfl
  | .mrk t => by
    show (t.cps.toList.map _).length = t.cps.size
    rw [List.length_map, Array.length_toList]
  | .grp ps => chrL_len ps
theorem chrL_len : ∀ ps : List Itm, (chrL ps).length = sizL ps
  | [] => rfl
  | i :: r => by
    show (chrI i ++ chrL r).length = sizI i + sizL r
    rw [List.length_append, chrI_len i, chrL_len r]
end
theorem plL_len (ps : List Itm) : (plL ps).length = sizL ps := by
  unfold plL
  rw [List.length_zip, hldL_len, chrL_len, Nat.min_self]
theorem plL_app (as bs : List Itm) : plL (as ++ bs) = plL as ++ plL bs := by
  unfold plL
  rw [hldL_app, chrL_app, List.zip_append (by rw [hldL_len, chrL_len])]
theorem zip_rep {α β : Type} (v : α) : ∀ l : List β, (List.replicate l.length v).zip l = l.map fun x => (v, x)
  | [] => rfl
  | x :: r => by
    rw [List.length_cons, List.replicate_succ, List.zip_cons_cons, zip_rep v r]
    rfl
theorem pl_f (n : Str) (rows : List RowL) : plL [toI (.f n rows)] = (kindN (onceL rows)).chars.map fun s => (some n, s) := by
  show ((List.replicate _ (some n)) ++ []).zip ((kindN (onceL rows)).chars ++ []) = _
  rw [List.append_nil, List.append_nil]
  exact zip_rep _ _
theorem pl_m (t : Str) : plL [toI (.m t)] = (t.cps.toList.map fun c => (⟨#[c]⟩ : Str)).map fun s => (none, s) := by
  show ((List.replicate t.cps.size none) ++ []).zip ((t.cps.toList.map fun c => (⟨#[c]⟩ : Str)) ++ []) = _
  rw [List.append_nil, List.append_nil]
  have e : t.cps.size = (t.cps.toList.map fun c => (⟨#[c]⟩ : Str)).length := by rw [List.length_map, Array.length_toList]
  rw [e]
  exact zip_rep _ _
theorem pl_o (qs : List Raw) : plL [toI (.o qs)] = plL (toIs qs) := by
  rw [← join_pl (toIs qs)]
  show (hldL (joinJ (toIs qs)) ++ []).zip (chrL (joinJ (toIs qs)) ++ []) = _
  rw [List.append_nil, List.append_nil]
  rfl
/-- a list of places -/
def PlcAt (H : Hp) (l : Addr) (pl : List (Option Str × Str)) : Prop := ∃ ts : List Addr, H l = some (.lst (ts.map V.ref)) ∧ ts.length = pl.length ∧ ∀ (j : Nat) (t : Addr) (x : Option Str × Str), ts[j]? = some t → pl[j]? = some x → H t = some (.tup [hV x.1, .str x.2])
theorem PlcAt.same {H H' : Hp} {l : Addr} {pl : List (Option Str × Str)} (h : PlcAt H l pl) (s : Same H H') : PlcAt H' l pl := by
  obtain ⟨ts, h1, h2, h3⟩ := h
  exact ⟨ts, s _ _ h1, h2, fun j t x e1 e2 => s _ _ (h3 j t x e1 e2)⟩
/-- x + y -/
theorem PlcAt.cat {H : Hp} {l m : Addr} {a b : List (Option Str × Str)} (h1 : PlcAt H l a) (h2 : PlcAt H m b) : ∃ ts us : List Addr, H l = some (.lst (ts.map V.ref)) ∧ H m = some (.lst (us.map V.ref)) ∧ ts.length = a.length ∧ us.length = b.length ∧ ∀ p, H p = none → PlcAt (upd H p (.lst (ts.map V.ref ++ us.map V.ref))) p (a ++ b) := by
  obtain ⟨ts, x1, x2, x3⟩ := h1
  obtain ⟨us, y1, y2, y3⟩ := h2
  refine ⟨ts, us, x1, y1, x2, y2, fun p hp => ?_⟩
  have s := same_new (o := .lst (ts.map V.ref ++ us.map V.ref)) hp
  refine ⟨ts ++ us, by rw [upd_same, List.map_append], by rw [List.length_append, List.length_append, x2, y2], fun j t x e1 e2 => ?_⟩
  rcases Nat.lt_or_ge j ts.length with lt | ge
  · rw [List.getElem?_append_left lt] at e1
    rw [List.getElem?_append_left (by omega)] at e2
    exact s _ _ (x3 j t x e1 e2)
  · rw [List.getElem?_append_right ge] at e1
    rw [List.getElem?_append_right (by omega), ← x2] at e2
    exact s _ _ (y3 _ t x e1 e2)
/-- a list of places under way: the list is changed, the tuples stay -/
def PlcIn (H : Hp) (D : Addr) (pl : List (Option Str × Str)) : Prop := ∃ ts : List Addr, H D = some (.lst (ts.map V.ref)) ∧ ts.length = pl.length ∧ ∀ (j : Nat) (t : Addr) (x : Option Str × Str), ts[j]? = some t → pl[j]? = some x → t ≠ D ∧ H t = some (.tup [hV x.1, .str x.2])
theorem PlcIn.at {H : Hp} {D : Addr} {pl : List (Option Str × Str)} (h : PlcIn H D pl) : PlcAt H D pl := by
  obtain ⟨ts, h1, h2, h3⟩ := h
  exact ⟨ts, h1, h2, fun j t x e1 e2 => (h3 j t x e1 e2).2⟩
/-- one more -/
theorem PlcIn.snoc {H : Hp} {D t : Addr} {pl : List (Option Str × Str)} {x : Option Str × Str} (h : PlcIn H D pl) (ht : H t = none) : ∃ acc : List V, upd H t (.tup [hV x.1, .str x.2]) D = some (.lst acc) ∧ acc.length = pl.length ∧ PlcIn (upd (upd H t (.tup [hV x.1, .str x.2])) D (.lst (acc ++ [.ref t]))) D (pl ++ [x]) := by
  obtain ⟨ts, h1, h2, h3⟩ := h
  have tD : t ≠ D := Ne.symm (ne_of_none h1 ht)
  have s := same_new (o := .tup [hV x.1, .str x.2]) ht
  refine ⟨ts.map V.ref, s _ _ h1, by rw [List.length_map, h2], ts ++ [t], by rw [upd_same, List.map_append]; rfl, by rw [List.length_append, List.length_append, h2]; rfl, fun j t' y e1 e2 => ?_⟩
  rcases Nat.lt_or_ge j ts.length with lt | ge
  · rw [List.getElem?_append_left lt] at e1
    rw [List.getElem?_append_left (by omega)] at e2
    obtain ⟨n, e⟩ := h3 j t' y e1 e2
    exact ⟨n, by rw [upd_ne n]; exact s _ _ e⟩
  · rw [List.getElem?_append_right ge] at e1
    rw [List.getElem?_append_right (by omega), ← h2] at e2
    have ej : j - ts.length = 0 := by
      obtain ⟨z, _⟩ := List.getElem?_eq_some_iff.mp e1
      rw [List.length_singleton] at z
      omega
    rw [ej] at e1 e2
    cases e1
    cases e2
    exact ⟨tD, by rw [upd_ne tD, upd_same]⟩
section
variable {P : Program} {w : World} {K : PySem.W.Frag} {mg : Str → Option Value} {base : Heap}
def spRp (d : Nat) : Sp := fun vs H Q _ => ∃ (r : Addr) (ps : List Raw) (HR : Hp), vs = [.ref r] ∧ RawL HR H r ps ∧ RawsOk ps ∧ depL (toIs ps) < d ∧ sizL (toIs ps) ≤ 200 ∧ ∀ (l : Addr) (H' : Hp), Same H H' → H l = none → PlcAt H' l (plL (toIs ps)) → Q (.ref l) H'
set_option maxHeartbeats 40000000 in
theorem ok_rp {f : Addr} {fd : FuncData} (F : FnP K "_law_row_places" "_law_row_places" s_l_row_places f fd) (N : Nms mg) (C1 : Can P w K mg base CX0 "_law_kind_places" ["_law_rows_here"] 2 spKp)
    (g : mg "_law_row_places" = some (.ref f)) (k : PySem.W.keepIn K (.ref f) = true) (b0 : Binds K fd ["_law_row_here"] []) : ∀ d, FnOk P w K mg base CX0 (2 + d) f fd ["_law_row_here"] (spRp d)
  | 0 => ⟨fun vs H Q E h => (by obtain ⟨_, _, _, _, _, _, h, _⟩ := h; omega), fun A outer s H args us vs Q E _ _ _ _ h => (by obtain ⟨_, _, _, _, _, _, h, _⟩ := h; omega)⟩
  | d + 1 => by
    have G := ok_rp F N C1 g k b0 d
    obtain ⟨f1, fd1, G1, g1, k1, b1⟩ := C1
    have nd := sc_l_row_places.nd
    refine F.ok sc_l_row_places (fun vs H Q E h => ?_) (fun cdv A outer s H vs Q E hr h => ?_)
    · obtain ⟨r, ps, HR, rfl, _⟩ := h
      rfl
    · obtain ⟨r, ps, HR, rfl, ⟨xs, er, hR⟩, pok, dd, siz, q⟩ := h
      have r2 := hr.mono (show 2 ≤ 2 + d by omega)
      refine ⟨_, PSs.nox (pss_cons (ps_set (i := 1) nd rfl (by first | exact .inl rfl | exact .inr rfl) (pe_lst pa_nil)) (pss_cons (ps_for PassesOwn.never rfl (pi_list (pv 0)) (pg_name (i := 2) nd rfl (by first | exact .inl rfl | exact .inr rfl))
        (pss_one (ps_if (pt_cmpR op_eq (pe_ix (r := rIxT K) ix_tup (pv 2) pe_int (fun _ _ => rfl)) pe_str (nomark _))
          (pss_one (ps_set (i := 1) nd rfl (by first | exact .inl rfl | exact .inr rfl) (pe_op op_cat (pv 1) (pe_lc (own := [("_law_signs_here", 3)]) (g := gName 3) (tt := tYes) rfl nd (pi_list (pe_call G1 r2 (by rfl) g1 k1 b1 .nil pass0 (pa_cons (pe_ix (r := rIxT K) ix_tup (pv 2) pe_int (fun _ _ => rfl)) pa_nil))) (blkOk_by (N := ["_law_row_here", "_law_found", "_law_item", "_law_signs_here", "_law_sign"]) (sc := defScope s_l_row_places) (by decide +kernel)) (fun _ _ _ _ _ => pg_name (i := 3) nd rfl (Or.inl rfl)) (fun _ _ _ _ _ => pts_nil)
            (fun _ _ _ _ _ => pe_tup (pa_cons (pe_ix (r := rIxT K) ix_tup (pv 2) pe_int (fun _ _ => rfl)) (pa_cons (pv 3) pa_nil)))))))
          (pss_one (ps_if (pt_cmpR op_eq (pe_ix (r := rIxT K) ix_tup (pv 2) pe_int (fun _ _ => rfl)) pe_str (nomark _))
            (pss_one (ps_set (i := 1) nd rfl (by first | exact .inl rfl | exact .inr rfl) (pe_op op_cat (pv 1) (pe_lc (own := [("_law_sign", 4)]) (g := gName 4) (tt := tYes) rfl nd (pi_str (pe_ix (r := rIxT K) ix_tup (pv 2) pe_int (fun _ _ => rfl))) (blkOk_by (N := ["_law_row_here", "_law_found", "_law_item", "_law_signs_here", "_law_sign"]) (sc := defScope s_l_row_places) (by decide +kernel)) (fun _ _ _ _ _ => pg_name (i := 4) nd rfl (Or.inl rfl)) (fun _ _ _ _ _ => pts_nil)
              (fun _ _ _ _ _ => pe_tup (pa_cons pe_non (pa_cons (pv 4) pa_nil)))))))
            (pss_one (ps_set (i := 1) nd rfl (by first | exact .inl rfl | exact .inr rfl) (pe_op op_cat (pv 1) (pe_call G hr (by rfl) g k b0 .nil pass0 (pa_cons (pe_ix (r := rIxT K) ix_tup (pv 2) pe_int (fun _ _ => rfl)) pa_nil)))))))))
        )
        (pss_one (ps_ret (pv 1))))), ?_⟩
      have lx : (xs.map V.ref).length = ps.length := by rw [List.length_map, hR.length]
      refine ⟨Nat.zero_le _, fun L hL => ?_⟩
      have s0 := same_new (o := .lst []) hL
      refine name_go ?_
      dsimp only
      refine seq_go ?_
      refine ⟨_, rfl, r, rfl, ⟨_, SqL.of (s0 _ _ er)⟩, ?_⟩
      refine for_list (xs := xs.map V.ref) (fun j σ H' => ∃ (F : Addr) (x2 x3 x4 : Option V), σ = [some (.ref r), some (.ref F), x2, x3, x4] ∧ Same H H' ∧ H F = none ∧ PlcAt H' F (plL (toIs (ps.take j)))) ⟨L, none, none, none, rfl, s0, hL, [], upd_same, rfl, fun j t x e => by cases e⟩ (fun j σ H' _ h => by
        obtain ⟨_, _, _, _, _, sm, _⟩ := h
        exact SqL.of (sm _ _ er)) ?_ ?_
      · rintro j x σ H3 hx ⟨F, x2, x3, x4, rfl, sm, hF, pF⟩
        obtain ⟨rw', a, rfl, hj, hA⟩ := hR.elt hx
        have mem := List.mem_of_getElem? hj
        have hA3 := RawAt.over (over_same sm) _ _ hA
        obtain ⟨sz, dp⟩ := sizI_raw mem
        have rok := rawsOk_mem pok _ mem
        have tk : plL (toIs (ps.take (j + 1))) = plL (toIs (ps.take j)) ++ plL [toI rw'] := by
          rw [List.take_add_one, hj, toIs_app, plL_app]
          rfl
        have l1 : (plL (toIs (ps.take j))).length ≤ 200 := by
          rw [plL_len]
          have e : toIs (ps.take j) = (toIs ps).take j := by rw [toIs_map, toIs_map, List.map_take]
          rw [e]
          exact Nat.le_trans (sizL_take _ _) siz
        have l2 : (plL [toI rw']).length ≤ 200 := by
          rw [plL_len]
          show sizI (toI rw') + 0 ≤ 200
          omega
        -- what was found, and the item's
        have fin : ∀ (H4 : Hp) (D : Addr) (R : VK), Same H3 H4 → PlcAt H4 D (plL [toI rw']) → (∀ p H5, Same H H5 → H p = none → PlcAt H5 p (plL (toIs (ps.take (j + 1)))) → R (.ref p) H5) → rCat (.ref F) (.ref D) H4 R := fun H4 D R s4 pD hR' => by
          obtain ⟨ts, us, e1, e2, n1, n2, mk⟩ := (pF.same s4).cat pD
          refine ⟨F, D, _, _, rfl, rfl, e1, e2, ?_, fun p hp => hR' p _ ((sm.trans s4).trans (same_new hp)) ((sm.trans s4).free hp) (by rw [tk]; exact mk p hp)⟩
          rw [List.length_map, List.length_map]
          exact line_small (by omega)
        refine name_go ?_
        dsimp only
        cases rw' with
        | f n rows =>
          obtain ⟨R, rs, t1, t2, t3, t4, rfl⟩ := hA3
          have dr : Drawn (rs.map (·.1)) := rok.2
          refine ⟨_, rfl, a, _, 0, _, rfl, rfl, SqT.of t1, rfl, rfl, _, rfl, ?_⟩
          refine iteT ?_
          refine asg_go ?_
          refine ⟨_, rfl, ?_⟩
          refine ⟨_, rfl, a, _, 2, _, rfl, rfl, SqT.of t1, rfl, R, rs, rfl, t3, t4, dr, fun p H4 s4 hp ep => ?_⟩
          refine ⟨p, rfl, ⟨_, SqL.of ep⟩, fun D hD => ?_⟩
          have lc : (strsV (kindN (onceL (rs.map (·.1)))).chars).length = (kindN (onceL (rs.map (·.1)))).chars.length := List.length_map _
          have l24 := dr.len
          refine lc_it (n := (strsV (kindN (onceL (rs.map (·.1)))).chars).length) (walk_list (K := K) (xs := strsV (kindN (onceL (rs.map (·.1)))).chars)) (fun i H' => PlcIn H' D (((kindN (onceL (rs.map (·.1)))).chars.map fun s => (some n, s)).take i) ∧ Same H4 H') ⟨⟨[], upd_same, by rw [List.take_zero]; rfl, fun j t x e => by cases e⟩, same_new hD⟩ (fun i H' _ h => SqL.of (K := K) (h.2 _ _ ep)) ?_ ?_
          · rintro i y _ H5 hi ⟨pI, s5⟩ ⟨rfl, hy⟩
            have hy : (strsV (kindN (onceL (rs.map (·.1)))).chars)[i]? = some y := hy
            unfold strsV at hy
            rw [List.getElem?_map] at hy
            obtain ⟨z, ez, rfl⟩ := Option.map_eq_some_iff.mp hy
            refine ⟨rfl, yes_keep ?_⟩
            refine ⟨_, rfl, a, _, 1, _, rfl, rfl, SqT.of (s5 _ _ (s4 _ _ t1)), rfl, _, rfl, line_small (by show 2 ≤ 16777216; decide), fun t nt => ?_⟩
            obtain ⟨acc, e1, e2, pN⟩ := pI.snoc (x := (some n, z)) nt
            have et : (((kindN (onceL (rs.map (·.1)))).chars.map fun s => (some n, s)).take (i + 1)) = (((kindN (onceL (rs.map (·.1)))).chars.map fun s => (some n, s)).take i) ++ [(some n, z)] := by
              rw [List.take_add_one, List.getElem?_map, ez]
              rfl
            rw [← et] at pN
            refine ⟨acc, e1, ?_, pN, fun b o q => ?_⟩
            · rw [e2, List.length_take, List.length_map]
              exact small1000 (by omega)
            · rw [upd_ne (ne_of_none q hD)]
              exact same_new nt _ _ (s5 _ _ q)
          · rintro H5 ⟨pI, s5⟩
            rw [lc, List.take_of_length_le (by rw [List.length_map]; exact Nat.le_refl _), ← pl_f] at pI
            refine fin H5 D _ (s4.trans s5) pI.at fun p5 H6 s6 n6 p6 => ?_
            refine name_go ?_
            dsimp only
            exact ⟨p5, _, _, _, rfl, s6, n6, p6⟩
        | m t =>
          have t1 : H3 a = some (.tup [.str "m", .str t]) := hA3
          have mok : MarkOk t := rok
          refine ⟨_, rfl, a, _, 0, _, rfl, rfl, SqT.of t1, rfl, rfl, _, rfl, ?_⟩
          refine iteF ?_
          refine ⟨_, rfl, a, _, 0, _, rfl, rfl, SqT.of t1, rfl, rfl, _, rfl, ?_⟩
          refine iteT ?_
          refine asg_go ?_
          refine ⟨_, rfl, ?_⟩
          refine ⟨_, rfl, a, _, 1, _, rfl, rfl, SqT.of t1, rfl, _, rfl, fun D hD => ?_⟩
          have lt2 := mok.hi
          refine lc_it (n := t.cps.size) walk_str (fun i H' => PlcIn H' D (((t.cps.toList.map fun c => (⟨#[c]⟩ : Str)).map fun s => ((none : Option Str), s)).take i) ∧ Same H3 H') ⟨⟨[], upd_same, by rw [List.take_zero]; rfl, fun j t x e => by cases e⟩, same_new hD⟩ (fun _ _ _ _ => True.intro) ?_ ?_
          · rintro i y H4 H5 hi ⟨pI, s5⟩ ⟨rfl, ch, hch, rfl⟩
            refine ⟨rfl, yes_keep ?_⟩
            refine ⟨_, rfl, line_small (by show 2 ≤ 16777216; decide), fun u nt => ?_⟩
            obtain ⟨acc, e1, e2, pN⟩ := pI.snoc (x := ((none : Option Str), (⟨#[ch]⟩ : Str))) nt
            have et : (((t.cps.toList.map fun c => (⟨#[c]⟩ : Str)).map fun s => ((none : Option Str), s)).take (i + 1)) = (((t.cps.toList.map fun c => (⟨#[c]⟩ : Str)).map fun s => ((none : Option Str), s)).take i) ++ [((none : Option Str), (⟨#[ch]⟩ : Str))] := by
              rw [List.take_add_one, List.getElem?_map, List.getElem?_map, Array.getElem?_toList, hch]
              rfl
            rw [← et] at pN
            refine ⟨acc, e1, ?_, pN, fun b o q => ?_⟩
            · rw [e2, List.length_take, List.length_map, List.length_map, Array.length_toList]
              exact small1000 (by omega)
            · rw [upd_ne (ne_of_none q hD)]
              exact same_new nt _ _ (s5 _ _ q)
          · rintro H5 ⟨pI, s5⟩
            rw [List.take_of_length_le (by rw [List.length_map, List.length_map, Array.length_toList]; exact Nat.le_refl _), ← pl_m] at pI
            refine fin H5 D _ s5 pI.at fun p5 H6 s6 n6 p6 => ?_
            refine name_go ?_
            dsimp only
            exact ⟨p5, _, _, _, rfl, s6, n6, p6⟩
        | o qs =>
          obtain ⟨l, zs, t1, t2, t3, t4⟩ := hA3
          refine ⟨_, rfl, a, _, 0, _, rfl, rfl, SqT.of t1, rfl, rfl, _, rfl, ?_⟩
          refine iteF ?_
          refine ⟨_, rfl, a, _, 0, _, rfl, rfl, SqT.of t1, rfl, rfl, _, rfl, ?_⟩
          refine iteF ?_
          refine asg_go ?_
          refine ⟨_, rfl, ?_⟩
          have dp : 1 + depL (joinJ (toIs qs)) ≤ depL (toIs ps) := dp
          have dj := dep_join (toIs qs)
          have sz : sizL (joinJ (toIs qs)) ≤ sizL (toIs ps) := sz
          rw [join_siz] at sz
          refine ⟨_, rfl, a, _, 1, _, rfl, rfl, SqT.of t1, rfl, l, qs, HR, rfl, ⟨zs, t3, t4⟩, rok.1, by omega, by omega, fun l2 H4 s4 nl hl => ?_⟩
          rw [← pl_o] at hl
          refine fin H4 l2 _ s4 hl fun p5 H6 s6 n6 p6 => ?_
          refine name_go ?_
          dsimp only
          exact ⟨p5, _, _, _, rfl, s6, n6, p6⟩
      · rintro σ H3 ⟨F, x2, x3, x4, rfl, sm, hF, pF⟩
        rw [lx, List.take_of_length_le (Nat.le_refl _)] at pF
        exact ⟨_, rfl, q F H3 sm hF pF⟩
end
end K14

set_option autoImplicit false
set_option maxErrors 4
namespace K14
open PySem PySem.Spec PyProof.Rows L2 Tl
section
variable {P : Program} {w : World} {K : PySem.W.Frag} {mg : Str → Option Value} {base : Heap}
def spIsP : Sp := fun vs H Q _ => ∃ (l : Addr) (pl : List (Option Str × Str)), vs = [.ref l] ∧ PlcAt H l pl ∧ Q (.bl true) H
set_option maxHeartbeats 20000000 in
theorem ok_isp {f : Addr} {fd : FuncData} (F : FnP K "_law_is_places" "_law_is_places" s_l_is_places f fd) (N : Nms mg) : FnOk P w K mg base CX0 1 f fd ["_law_told"] spIsP := by
  have nd := sc_l_is_places.nd
  refine F.ok sc_l_is_places (fun vs H Q E h => ?_) (fun cdv A outer s H vs Q E hr h => ?_)
  · obtain ⟨l, pl, rfl, _⟩ := h
    rfl
  · obtain ⟨l, pl, rfl, ⟨ts, el, lt, each⟩, q⟩ := h
    refine ⟨_, PSs.nox (pss_cons (ps_if (pt_not (pt_val (pe_callB call_isi (by rfl) N.isi (by decide +kernel) (pa_cons (pv 0) (pa_cons (pe_bltn (v := .ty "list") (by rfl) N.list (by decide +kernel) rfl) pa_nil))))) (pss_one (ps_ret pe_bl)) pss_nil)
      (pss_cons (ps_for PassesOwn.never rfl (pi_list (pv 0)) (pg_name (i := 1) nd rfl (.inl rfl))
        (pss_cons (ps_if (PW.pt (pw_or (pt_not (pt_val (pe_callB call_isi (by rfl) N.isi (by decide +kernel) (pa_cons (pv 1) (pa_cons (pe_bltn (v := .ty "tuple") (by rfl) N.tuple (by decide +kernel) rfl) pa_nil))))) (pw_or (pt_cmpR op_ne (pe_callB call_len_seq (by rfl) N.len PySem.boot_len (pa_cons (pv 1) pa_nil)) pe_int (nomark _)) (pw_or1 (pt_not (pt_val (pe_callB call_isi (by rfl) N.isi (by decide +kernel) (pa_cons (pe_ix (r := rIxT K) ix_tup (pv 1) pe_int (fun _ _ => rfl)) (pa_cons (pe_bltn (v := .ty "str") (by rfl) N.str (by decide +kernel) rfl) pa_nil))))))))) (pss_one (ps_ret pe_bl)) pss_nil)
        (pss_one (ps_if (PW.pt (pw_and (pt_cmpR op_notN (pe_ix (r := rIxT K) ix_tup (pv 1) pe_int (fun _ _ => rfl)) pe_non (nomark _)) (pw_and1 (pt_not (pt_val (pe_callB call_isi (by rfl) N.isi (by decide +kernel) (pa_cons (pe_ix (r := rIxT K) ix_tup (pv 1) pe_int (fun _ _ => rfl)) (pa_cons (pe_bltn (v := .ty "str") (by rfl) N.str (by decide +kernel) rfl) pa_nil)))))))) (pss_one (ps_ret pe_bl)) pss_nil))))
      (pss_one (ps_ret pe_bl)))), ?_⟩
    refine ⟨_, rfl, _, _, _, _, true, rfl, .ty "list", .base (.lst el), kit_ty (by decide +kernel), _, rfl, iteF ?_⟩
    refine ⟨_, rfl, l, rfl, ⟨_, SqL.of el⟩, ?_⟩
    refine for_list (xs := ts.map V.ref) (fun i σ H' => ∃ x1 : Option V, σ = [some (.ref l), x1] ∧ H' = H) ⟨none, rfl, rfl⟩ (fun i σ H' _ h => by
      obtain ⟨_, _, rfl⟩ := h
      exact SqL.of el) ?_ ?_
    · rintro i x σ H1 hx ⟨x1, rfl, rfl⟩
      have hi : i < ts.length := by
        have := (List.getElem?_eq_some_iff.mp hx).1
        rw [List.length_map] at this
        exact this
      have ex : x = .ref ts[i] := by
        rw [List.getElem?_map, List.getElem?_eq_getElem hi] at hx
        exact (Option.some.inj hx).symm
      subst ex
      have hp : i < pl.length := by omega
      have et := each i ts[i] pl[i] (List.getElem?_eq_getElem hi) (List.getElem?_eq_getElem hp)
      refine name_go ?_
      dsimp only
      refine ⟨_, rfl, _, _, _, _, true, rfl, .ty "tuple", .base (.tup et), kit_ty (by decide +kernel), _, rfl, iteF ?_⟩
      refine ⟨_, rfl, ts[i], _, rfl, .inr (SqT.of et), rfl, _, rfl, iteF ?_⟩
      refine ⟨_, rfl, ts[i], _, 1, _, rfl, rfl, SqT.of et, rfl, _, _, _, _, true, rfl, .ty "str", .base (.str _), kit_ty (by decide +kernel), _, rfl, iteF ?_⟩
      cases hz : pl[i].1 with
      | none =>
        rw [hz] at et
        refine ⟨_, rfl, ts[i], _, 0, _, rfl, rfl, SqT.of et, rfl, rfl, _, rfl, iteF ?_⟩
        exact iteF ⟨_, rfl, rfl⟩
      | some z =>
        rw [hz] at et
        refine ⟨_, rfl, ts[i], _, 0, _, rfl, rfl, SqT.of et, rfl, rfl, _, rfl, iteT ?_⟩
        refine ⟨_, rfl, ts[i], _, 0, _, rfl, rfl, SqT.of et, rfl, _, _, _, _, true, rfl, .ty "str", .base (.str _), kit_ty (by decide +kernel), _, rfl, iteF ?_⟩
        exact ⟨_, rfl, rfl⟩
    · rintro σ H1 ⟨x1, rfl, rfl⟩
      exact q
end
end K14

set_option autoImplicit false
set_option maxErrors 4
namespace K14
open PySem PySem.Spec PyProof.Rows L2 Tl
/-! ### the law: what stands through it -/
theorem FnOk.any {P : Program} {w : World} {K : PySem.W.Frag} {mg : Str → Option Value} {base : Heap} {CX : CXT} {k : Nat} {f : Addr} {fd : FuncData} {ps : List Str} {α : Type} {sp : α → Sp} (F : ∀ a, FnOk P w K mg base CX k f fd ps (sp a)) : FnOk P w K mg base CX k f fd ps (fun vs H Q E => ∃ a, sp a vs H Q E) :=
  ⟨fun vs H Q E ⟨a, h⟩ => (F a).len vs H Q E h, fun A outer s H args us vs Q E h1 h2 h3 h4 ⟨a, h⟩ => (F a).run A outer s H args us vs Q E h1 h2 h3 h4 h⟩
/-! places as data -/
def nameD (o : Option Str) : PyData := o.elim .none fun n => .str n
def plD (x : Option Str × Str) : PyData := .tuple [nameD x.1, .str x.2]
theorem eqv_pl (a b : Option Str × Str) : PyData.eqv (plD a) (plD b) = decide (a = b) := by
  obtain ⟨a1, a2⟩ := a
  obtain ⟨b1, b2⟩ := b
  unfold plD
  have e : PyData.eqv (nameD a1) (nameD b1) = decide (a1 = b1) := by
    cases a1 <;> cases b1 <;> simp [nameD, PyData.eqv]
    rw [Bool.eq_iff_iff]
    simp
  simp only [PyData.eqv, PyData.eqvAll, e]
  rw [Bool.eq_iff_iff]
  simp
def PlOk (pl : List (Option Str × Str)) : Prop := ∀ x ∈ pl, (∀ n, x.1 = some n → PyData.strOk n = true) ∧ PyData.strOk x.2 = true
theorem PlOk.app {a b : List (Option Str × Str)} (h1 : PlOk a) (h2 : PlOk b) : PlOk (a ++ b) := fun x hx => (List.mem_append.mp hx).elim (h1 x) (h2 x)
theorem shaped_pl {pl : List (Option Str × Str)} (h : PlOk pl) : SeqAt.shaped (.list (pl.map plD)) = true := by
  obtain ⟨a, b⟩ := all_ok (f := plD) (n := 2) fun x hx => by
    obtain ⟨h1, h2⟩ := h x hx
    obtain ⟨o, z⟩ := x
    cases o with
    | none => simp [plD, nameD, PyData.canLay0, PyData.canLayAll0, PyData.depth, PyData.depthAll]; exact h2
    | some n => simp [plD, nameD, PyData.canLay0, PyData.canLayAll0, PyData.depth, PyData.depthAll]; exact ⟨h1 n rfl, h2⟩
  exact shaped_of (n := 3) ⟨by rw [PyData.canLay0]; exact a, by rw [PyData.depth]; omega⟩ (by decide)
theorem az_alpha : ∀ c < 123, 97 ≤ c → c ∈ alpha := by decide +kernel
theorem NameOk.txt {z : Str} (h : NameOk z) : PyData.strOk z = true := tx_ok (l := z.cps.toList) fun c hc => by
  obtain ⟨a, b⟩ := h.az c hc
  exact az_alpha c (by omega) a
mutual
theorem plOkR : ∀ r : Raw, RawOk r → PlOk (plL [toI r])
  | .f n rows, h => by
    rw [pl_f]
    intro x hx
    obtain ⟨z, hz, rfl⟩ := List.mem_map.mp hx
    refine ⟨fun m e => by cases e; exact h.1.txt, ?_⟩
    rw [kind_chars] at hz
    obtain ⟨r, hr, hz⟩ := List.mem_flatMap.mp hz
    obtain ⟨y, hy, hz⟩ := List.mem_flatMap.mp hz
    show PyData.strOk z = true
    rw [List.eq_of_mem_replicate hz]
    exact ((h.2.g r (onceL_sub r hr)).all y hy).txok
  | .m t, h => by
    rw [pl_m]
    intro x hx
    obtain ⟨z, hz, rfl⟩ := List.mem_map.mp hx
    obtain ⟨c, hc, rfl⟩ := List.mem_map.mp hz
    refine ⟨(fun m e => by cases e), tx_ok (l := [c]) fun y hy => ?_⟩
    rw [List.mem_singleton.mp hy]
    exact h.al c hc
  | .o ps, h => by
    rw [pl_o]
    exact plOkRs ps h.1
theorem plOkRs : ∀ ps : List Raw, RawsOk ps → PlOk (plL (toIs ps))
  | [], _ => fun x hx => by cases hx
  | r :: q, h => by
    have e : plL (toIs (r :: q)) = plL [toI r] ++ plL (toIs q) := plL_app [toI r] (toIs q)
    rw [e]
    exact (plOkR r h.1).app (plOkRs q h.2)
end
theorem plF_snoc (ls : List (List Itm)) (p : List Itm) (h : ls ≠ []) : plF (ls ++ [p]) = plF ls ++ [(none, feedS)] ++ plL p := by
  cases ls with
  | nil => exact absurd rfl h
  | cons a r =>
    show (r ++ [p]).foldl _ _ = _
    rw [List.foldl_append]
    rfl
theorem plOkF : ∀ {pss : List (List Raw)}, (∀ ps ∈ pss, RawsOk ps) → PlOk (plF (pss.map toIs)) := by
  intro pss
  cases pss with
  | nil => exact fun _ x hx => by cases hx
  | cons p r =>
    intro h
    have go : ∀ (r : List (List Raw)) (acc : List (Option Str × Str)), PlOk acc → (∀ ps ∈ r, RawsOk ps) → PlOk ((r.map toIs).foldl (fun a q => a ++ [(none, feedS)] ++ plL q) acc) := by
      intro r
      induction r with
      | nil => intro acc h1 _; exact h1
      | cons q r ih =>
        intro acc h1 h2
        refine ih _ ((h1.app fun x hx => ?_).app (plOkRs q (h2 q List.mem_cons_self))) fun ps hp => h2 ps (List.mem_cons_of_mem _ hp)
        rw [List.mem_singleton.mp hx]
        exact ⟨(fun n e => by cases e), by decide +kernel⟩
    exact go r _ (plOkRs p (h p List.mem_cons_self)) fun ps hp => h ps (List.mem_cons_of_mem _ hp)
mutual
theorem raw_pos : ∀ r : Raw, RawOk r → 1 ≤ sizI (toI r)
  | .f n rows, h => by
    have ne := h.2.net.2.1
    show 1 ≤ (kindN (onceL rows)).chars.length
    exact List.length_pos_iff.mpr ne
  | .m t, h => h.lo
  | .o ps, h => by
    show 1 ≤ sizL (joinJ (toIs ps))
    rw [join_siz]
    cases ps with
    | nil => exact absurd h.2.1 (by decide)
    | cons r q => exact raws_pos r q h.1
theorem raws_pos : ∀ (r : Raw) (q : List Raw), RawsOk (r :: q) → 1 ≤ sizL (toIs (r :: q))
  | r, q, h => Nat.le_trans (raw_pos r h.1) (Nat.le_add_right _ _)
end
section
variable {K : PySem.W.Frag} {H : Hp} {FC MC YC KC NC OC : Addr} {HB : Hp}
theorem plc_dp : ∀ {ts : List Addr} {pl : List (Option Str × Str)}, ts.length = pl.length → (∀ (j : Nat) (t : Addr) (x : Option Str × Str), ts[j]? = some t → pl[j]? = some x → H t = some (.tup [hV x.1, .str x.2])) → DpAll K H (ts.map V.ref) (pl.map plD)
  | [], [], _, _ => .nil
  | [], _ :: _, l, _ => by cases l
  | _ :: _, [], l, _ => by cases l
  | t :: ts, x :: pl, l, h => by
    refine .cons (.tup (SqT.of (h 0 t x rfl rfl)) (.cons ?_ (.cons (.str _) .nil))) (plc_dp (Nat.succ.inj l) fun j t' x' e1 e2 => h (j + 1) t' x' e1 e2)
    obtain ⟨o, z⟩ := x
    cases o with
    | none => exact .non
    | some n => exact .str n
theorem PlcAt.dp {l : Addr} {pl : List (Option Str × Str)} (h : PlcAt H l pl) : Dp K H (.ref l) (.list (pl.map plD)) := by
  obtain ⟨ts, h1, h2, h3⟩ := h
  exact .lst (SqL.of h1) (plc_dp h2 h3)
theorem PlcAt.in {l : Addr} {pl : List (Option Str × Str)} (h : PlcAt H l pl) : PlcIn H l pl := by
  obtain ⟨ts, h1, h2, h3⟩ := h
  exact ⟨ts, h1, h2, fun j t x e1 e2 => ⟨(fun z => by have := h3 j t x e1 e2; rw [z, h1] at this; cases this), h3 j t x e1 e2⟩⟩
/-- a form stands while a list of objects is changed -/
theorem FormAt.lst {p D : Addr} {ls : List (List Itm)} {acc : List Addr} {u : HO} (h : FormAt FC MC YC KC NC OC HB H p ls) (e : H D = some (.lst (acc.map V.ref))) (ne : acc ≠ []) : FormAt FC MC YC KC NC OC HB (upd H D u) p ls := by
  obtain ⟨dx, a, f, n, hh, ov, ys, h1, h2, h3, h4, ⟨dn, c, fo, d, hn, n1, n2, n3, n4⟩, h6, h7⟩ := h
  have st : Stays H (upd H D u) := stays_lst e
  obtain ⟨x, r, rfl⟩ := List.exists_cons_of_ne_nil ne
  refine ⟨dx, a, f, n, hh, ov, ys, ?_, h2.stays st, st _ _ h3 notF_tup, ItmsAt.stays st _ _ h4, ⟨dn, c, fo, d, hn, ?_, ?_, ?_, st _ _ n4 notF_dK⟩, st _ _ h6 notF_tup, h7⟩
  · rw [upd_ne (fun z => by rw [z, e] at h1; cases h1)]
    exact h1
  · rw [upd_ne (fun z => by rw [z, e] at n1; cases n1)]
    exact n1
  · rw [upd_ne (fun z => by
      rw [z, e] at n2
      have y := HO.lst.inj (Option.some.inj n2)
      cases hc : (formN ls).chars with
      | nil => rw [hc] at y; cases y
      | cons s t => rw [hc] at y; injection y with y1 y2; cases y1)]
    exact n2
  · rw [upd_ne (fun z => by
      rw [z, e] at n3
      have y := HO.lst.inj (Option.some.inj n3)
      cases hc : (formN ls).follow with
      | nil => rw [hc] at y; cases y
      | cons s t => rw [hc] at y; injection y with y1 y2; cases y1)]
    exact n3
end
end K14

set_option autoImplicit false
set_option maxErrors 4
namespace K14
open PySem PySem.Spec PyProof.Rows L2 Tl
def spMakeX (FC MC YC KC NC OC : Addr) : Sp := fun vs H Q E => ∃ HB, spMakeR FC MC YC KC NC OC HB vs H Q E
def spPlX (FC MC YC KC NC OC : Addr) : Sp := fun vs H Q E => ∃ HB, spPlaces FC MC YC KC NC OC HB vs H Q E
def spAddX (FC MC YC KC NC OC : Addr) : Sp := fun vs H Q E => ∃ HB, spOadd FC MC YC KC NC OC HB vs H Q E
def ROX (FC MC YC KC NC OC : Addr) : Addr → Addr → Hp → Prop := fun a b H => ∃ HB, RO FC MC YC KC NC OC HB a b H
structure Parts (P : Program) (w : World) (K : PySem.W.Frag) (mg : Str → Option Value) (base : Heap) (C FC MC YC KC NC OC : Addr) : Prop where
  T : Town K mg C KC NC FC MC YC OC
  self : PySem.W.selfFirst K OC = true
  bag : Can P w K mg base CX0 "_law_bag" ["_law_script"] 1 (spBag K)
  draw : Can P w K mg base CX0 "_law_draw" ["_law_bag_here", "_law_limit"] 1 spDraw
  lines : Can P w K mg base CX0 "_law_lines" ["_law_bag_here", "_law_many"] 9 spLinesR
  make : Can P w K mg base CX0 "_law_make" ["_law_lines_here"] 16 (spMakeX FC MC YC KC NC OC)
  rp : Can P w K mg base CX0 "_law_row_places" ["_law_row_here"] 6 (spRp 4)
  isp : Can P w K mg base CX0 "_law_is_places" ["_law_told"] 1 spIsP
  places : ∃ f fd, Meth K OC "places" f ∧ FnOk P w K mg base CX0 1 f fd ["self"] (spPlX FC MC YC KC NC OC) ∧ Binds K fd ["self"] []
  add : ∃ f fd, OpC K OC (PySem.dunder (Operator.Add).info.2) f ∧ FnOk P w K mg base CX0 16 f fd ["self", "other"] (spAddX FC MC YC KC NC OC) ∧ Binds K fd ["self", "other"] []
  eq : ∃ f fd, OpC K OC "__eq__" f ∧ FnOk P w K mg base CX0 14 f fd ["self", "other"] (spEq (ROX FC MC YC KC NC OC)) ∧ Binds K fd ["self", "other"] []
abbrev lN : List Str := ["_law_script", "_law_bag_here", "_law_lines_here", "_law_form", "_law_due", "_law_joined", "_law_line", "_law_told"]
section
variable {P : Program} {w : World} {K : PySem.W.Frag} {mg : Str → Option Value} {base : Heap} {C KC NC FC MC YC OC : Addr}
set_option maxHeartbeats 40000000 in
theorem law_t {f : Addr} {cdv : Value} {A : Around} {outer : List Env} {s : Shared} {H0 : Hp} {E : XK} (N : Nms mg) (Z : Parts P w K mg base C FC MC YC KC NC OC)
    (hr : Room 16 (A.deeper (envOfC "law" (defScope s_law) s.heap.objs.size f cdv))) : ∃ tt : TS, PSs (cxOf CX0 P w K mg base lN "law" (defScope s_law) f cdv A outer s H0 E).nox ((defBody s_law).drop 6) tt ∧
    ∀ (D : Ends) (o d j : Addr) (pss : List (List Raw)) (HB H : Hp) (x0 x1 x2 x6 x7 : Option V), FormAt FC MC YC KC NC OC HB H o ((pss.map toIs).map joinJ) → FormAt FC MC YC KC NC OC HB H j ((pss.map toIs).map joinJ) → PlcAt H d (plF (pss.map toIs)) → (∀ ps ∈ pss, RawsOk ps) → (plF (pss.map toIs)).length ≤ 1000 → (∀ H', D.rt (.bl true) H') →
      tt D [x0, x1, x2, some (.ref o), some (.ref d), some (.ref j), x6, x7] H := by
  obtain ⟨fI, fdI, GI, gI, kI, bI⟩ := Z.isp
  obtain ⟨fP, fdP, MP, GP, bP⟩ := Z.places
  obtain ⟨fE, fdE, ME, GE, bE⟩ := Z.eq
  have T := Z.T
  have nd := sc_law.nd
  have r1 := hr.mono (show 1 ≤ 16 by decide)
  have r14 := hr.mono (show 14 ≤ 16 by decide)
  have hu : (A.deeper (envOfC "law" (defScope s_law) s.heap.objs.size f cdv)).units + 64 < cLine := by have := hr.un; omega
  refine ⟨_, pss_cons (ps_set (i := 7) nd rfl (by first | exact .inl rfl | exact .inr rfl) (pe_meth0 (pv 3) T.clO MP GP r1 bP .nil pass0))
    (pss_cons (ps_if (PW.pt (pw_or (pt_not (pt_val (pe_call GI r1 (by rfl) gI kI bI .nil pass0 (pa_cons (pv 7) pa_nil)))) (pw_or1 (pt_cmpR (r := rNeD K) (op_neD hu) (pv 7) (pv 4) (nomark _))))) (pss_one (ps_ret pe_bl)) pss_nil)
    (pss_cons (ps_expr (pe_bm PySem.F.plainAttrs_list PySem.F.slot_list_append PySem.F.type_list_append mt_append (pv 7) (pa_cons (pe_tup (pa_cons pe_non (pa_cons pe_str pa_nil))) pa_nil)))
    (pss_one (ps_ret (pe_and (pe_cmpR (r := rEqD K) (op_eqD hu) (pe_meth0 (pv 3) T.clO MP GP r1 bP .nil pass0) (pv 4) (nomark _)) (pe_and (pe_cmpR (r := rEqD K) (op_eqD hu) (pe_meth0 (pv 5) T.clO MP GP r1 bP .nil pass0) (pv 4) (nomark _)) (pe_one (pe_cmpR (r := rEqG (DIns OC (ROX FC MC YC KC NC OC))) (op_eqG (rcG_ins GE ME.at_ ME.fn bE pass0) r14) (pv 5) (pv 3) (nomark _))))))))), ?_⟩
  intro D o d j pss HB H x0 x1 x2 x6 x7 ho hj hd ok l1000 q
  have eF : plF ((pss.map toIs).map joinJ) = plF (pss.map toIs) := join_plF _
  have sh := shaped_pl (plOkF ok)
  have ev : PyData.eqv (.list ((plF (pss.map toIs)).map plD)) (.list ((plF (pss.map toIs)).map plD)) = true := by
    rw [PyData.eqv, eqvAll_inj eqv_pl]
    simp
  refine seq_go (asg_go ?_)
  obtain ⟨dxo, uo, fo, no, hho, ovo, yso, o1, _⟩ := id ho
  obtain ⟨dxj, uj, fj, nj, hhj, ovj, ysj, j1, _⟩ := id hj
  refine ⟨_, rfl, o, dxo, _, rfl, o1, (by rfl), HB, o, _, rfl, ho, fun H1 l1 ts1 s1 n1 nt1 nl1 e1 lt1 each1 => ?_⟩
  rw [eF] at lt1 each1
  have p1 : PlcAt H1 l1 (plF (pss.map toIs)) := ⟨ts1, e1, lt1, each1⟩
  refine name_go ?_
  dsimp only
  refine seq_go ?_
  refine ⟨_, rfl, l1, _, rfl, p1, _, rfl, iteF ?_⟩
  refine ⟨_, rfl, _, rfl, _, _, p1.dp, (hd.same s1).dp, sh, sh, _, rfl, ?_⟩
  rw [ev]
  refine iteF ?_
  refine seq_go ?_
  refine ⟨.ref l1, rfl, .inl ⟨rfl, _, SqL.of e1⟩, line_small (by show 2 ≤ 16777216; decide), fun t nt => ?_⟩
  have st := same_new (o := .tup [.non, .str "x"]) nt
  refine ⟨l1, _, _, rfl, rfl, st _ _ e1, by rw [List.length_map, lt1]; exact small1000 (by omega), ?_⟩
  have s3 : Same H (upd (upd H1 t (.tup [.non, .str "x"])) l1 (.lst (ts1.map V.ref ++ [.ref t]))) := fun b u e => by
    rw [upd_ne (ne_of_none e n1)]
    exact st _ _ (s1 _ _ e)
  generalize upd (upd H1 t (.tup [.non, .str "x"])) l1 (.lst (ts1.map V.ref ++ [.ref t])) = H3 at s3 ⊢
  refine ⟨_, rfl, o, dxo, _, rfl, s3 _ _ o1, (by rfl), HB, o, _, rfl, ho.same s3, fun H4 l4 ts4 s4 n4 nt4 nl4 e4 lt4 each4 => ?_⟩
  rw [eF] at lt4 each4
  have p4 : PlcAt H4 l4 (plF (pss.map toIs)) := ⟨ts4, e4, lt4, each4⟩
  have s34 := s3.trans s4
  refine ⟨_, rfl, _, _, p4.dp, (hd.same s34).dp, sh, sh, ?_⟩
  rw [ev]
  refine ⟨true, rfl, iteT ?_⟩
  refine ⟨_, rfl, j, dxj, _, rfl, s34 _ _ j1, (by rfl), HB, j, _, rfl, hj.same s34, fun H5 l5 ts5 s5 n5 nt5 nl5 e5 lt5 each5 => ?_⟩
  rw [eF] at lt5 each5
  have p5 : PlcAt H5 l5 (plF (pss.map toIs)) := ⟨ts5, e5, lt5, each5⟩
  have s35 := s34.trans s5
  refine ⟨_, rfl, _, _, p5.dp, (hd.same s35).dp, sh, sh, ?_⟩
  rw [ev]
  refine ⟨true, rfl, iteT ?_⟩
  exact ⟨_, rfl, _, rfl, ⟨j, o, dxj, dxo, _, _, rfl, rfl, s35 _ _ j1, s35 _ _ o1, HB, _, hj.same s35, ho.same s35⟩, fun H6 _ => q H6⟩
end
end K14

set_option autoImplicit false
set_option maxErrors 4
namespace K14
open PySem PySem.Spec PyProof.Rows L2 Tl
theorem plF_len (ls : List (List Itm)) : (plF ls).length ≤ ls.length - 1 + (ls.map sizL).sum := by
  cases ls with
  | nil => exact Nat.zero_le _
  | cons p r =>
    have go : ∀ (r : List (List Itm)) (acc : List (Option Str × Str)), (r.foldl (fun a q => a ++ [(none, feedS)] ++ plL q) acc).length = acc.length + r.length + (r.map sizL).sum := by
      intro r
      induction r with
      | nil => intro acc; rfl
      | cons q r ih =>
        intro acc
        show (r.foldl _ (acc ++ [(none, feedS)] ++ plL q)).length = _
        rw [ih]
        simp only [List.length_append, List.length_cons, List.length_nil, List.map_cons, List.sum_cons, plL_len]
        omega
    show (r.foldl _ (plL p)).length ≤ _
    rw [go, plL_len]
    simp only [List.length_cons, List.map_cons, List.sum_cons]
    omega
theorem PssOk.pl {pss : List (List Raw)} (h : PssOk pss) : (plF (pss.map toIs)).length ≤ 200 := Nat.le_trans (plF_len _) h.lines.siz
theorem PssOk.take {pss : List (List Raw)} (h : PssOk pss) {i : Nat} (h1 : 1 ≤ i) : PssOk (pss.take i) := by
  have sub : (nmP (pss.take i)).Sublist (nmP pss) := by
    have e : nmP pss = nmP (pss.take i) ++ nmP (pss.drop i) := by
      unfold nmP
      rw [← List.flatMap_append, List.take_append_drop]
    rw [e]
    exact List.sublist_append_left _ _
  have lo := h.lo
  have hi := h.hi
  exact ⟨by rw [List.length_take]; omega, by rw [List.length_take]; omega, fun q hq => h.each q (List.mem_of_mem_take hq), h.nd.sublist sub, Nat.le_trans sub.length_le h.few⟩
theorem take_form {pss : List (List Raw)} {i : Nat} {ps : List Raw} (e : pss[i]? = some ps) : ((pss.take (i + 1)).map toIs).map joinJ = ((pss.take i).map toIs).map joinJ ++ (([ps].map toIs).map joinJ) := by
  rw [List.take_add_one, e, List.map_append, List.map_append]
  rfl
theorem join_joined (ls : List (List Itm)) : (ls.map joinJ).map joinJ = ls.map joinJ := by
  rw [List.map_map]
  exact List.map_congr_left fun p _ => join_fix p
theorem take_plF {pss : List (List Raw)} {i : Nat} {ps : List Raw} (e : pss[i]? = some ps) : plF ((pss.take (i + 1)).map toIs) = plF ((pss.take i).map toIs) ++ (if i = 0 then [] else [(none, feedS)]) ++ plL (toIs ps) := by
  rw [List.take_add_one, e, List.map_append]
  by_cases h : i = 0
  · subst h
    rw [List.take_zero]
    rfl
  · rw [if_neg h]
    refine plF_snoc _ _ fun z => ?_
    have z2 := congrArg List.length z
    have : i < pss.length := (List.getElem?_eq_some_iff.mp e).1
    rw [List.length_map, List.length_take, List.length_nil] at z2
    omega
section
variable {P : Program} {w : World} {K : PySem.W.Frag} {mg : Str → Option Value} {base : Heap} {C KC NC FC MC YC OC : Addr}
def spLaw (K : PySem.W.Frag) : Sp := fun vs H Q _ => ∃ (a : Addr) (ns : List Int), vs = [.ref a] ∧ SqL K H a (ns.map V.int) ∧ ns.length ≤ 63 ∧ ∀ H', Q (.bl true) H'
set_option maxHeartbeats 40000000 in
theorem ok_law {f : Addr} {fd : FuncData} (F : FnP K "law" "law" s_law f fd) (N : Nms mg) (Z : Parts P w K mg base C FC MC YC KC NC OC) : FnOk P w K mg base CX0 17 f fd ["_law_script"] (spLaw K) := by
  obtain ⟨fB, fdB, GB, gB, kB, bB⟩ := Z.bag
  obtain ⟨fD, fdD, GD, gD, kD, bD⟩ := Z.draw
  obtain ⟨fL, fdL, GL, gL, kL, bL⟩ := Z.lines
  obtain ⟨fM, fdM, GM, gM, kM, bM⟩ := Z.make
  obtain ⟨fR, fdR, GR, gR, kR, bR⟩ := Z.rp
  obtain ⟨fA, fdA, MA, GA, bA⟩ := Z.add
  have T := Z.T
  have nd := sc_law.nd
  refine F.ok sc_law (fun vs H Q E h => ?_) (fun cdv A outer s H vs Q E hr h => ?_)
  · obtain ⟨a, ns, rfl, _⟩ := h
    rfl
  · obtain ⟨a, ns, rfl, ha, l63, q⟩ := h
    have r1 := hr.mono (show 1 ≤ 16 by decide)
    have r6 := hr.mono (show 6 ≤ 16 by decide)
    have r9 := hr.mono (show 9 ≤ 16 by decide)
    obtain ⟨tt, PT, TT⟩ := law_t (f := f) (cdv := cdv) (A := A) (outer := outer) (s := s) (H0 := H) (E := E) N Z hr
    refine ⟨_, PSs.nox (pss_cons (ps_set (i := 1) nd rfl (by first | exact .inl rfl | exact .inr rfl) (pe_call GB r1 (by rfl) gB kB bB .nil pass0 (pa_cons (pv 0) pa_nil)))
      (pss_cons (ps_set (i := 2) nd rfl (by first | exact .inl rfl | exact .inr rfl) (pe_call GL r9 (by rfl) gL kL bL .nil pass0 (pa_cons (pv 1) (pa_cons (pe_op op_add pe_int (pe_call GD r1 (by rfl) gD kD bD .nil pass0 (pa_cons (pv 1) (pa_cons pe_int pa_nil)))) pa_nil))))
      (pss_cons (ps_set (i := 3) nd rfl (by first | exact .inl rfl | exact .inr rfl) (pe_call GM hr (by rfl) gM kM bM .nil pass0 (pa_cons (pv 2) pa_nil)))
      (pss_cons (ps_set (i := 4) nd rfl (by first | exact .inl rfl | exact .inr rfl) (pe_lst pa_nil))
      (pss_cons (ps_set (i := 5) nd rfl (by first | exact .inl rfl | exact .inr rfl) pe_non)
      (pss_cons (ps_for PassesOwn.never rfl (pi_list (pv 2)) (pg_name (i := 6) nd rfl (by first | exact .inl rfl | exact .inr rfl))
        (C8.pss_cut (ps_if (pt_cmpR op_isN (pv 5) pe_non (nomark _)) (pss_one (ps_set (i := 5) nd rfl (by first | exact .inl rfl | exact .inr rfl) (pe_call GM hr (by rfl) gM kM bM .nil pass0 (pa_cons (pe_lst (pa_cons (pv 6) pa_nil)) pa_nil))))
          (pss_cons (ps_set (i := 5) nd rfl (by first | exact .inl rfl | exact .inr rfl) (pe_op (op_bin (op := .Add) Z.self MA GA hr bA pass0) (pv 5) (pe_call GM hr (by rfl) gM kM bM .nil pass0 (pa_cons (pe_lst (pa_cons (pv 6) pa_nil)) pa_nil))))
          (pss_one (ps_expr (pe_bm PySem.F.plainAttrs_list PySem.F.slot_list_append PySem.F.type_list_append mt_append (pv 4) (pa_cons (pe_tup (pa_cons pe_non (pa_cons pe_str pa_nil))) pa_nil))))))
        (pss_one (ps_set (i := 4) nd rfl (by first | exact .inl rfl | exact .inr rfl) (pe_op op_cat (pv 4) (pe_call GR r6 (by rfl) gR kR bR .nil pass0 (pa_cons (pv 6) pa_nil)))))))
      PT)))))), ?_⟩
    have ef : ("\n" : Str) = feedS := by decide +kernel
    refine ⟨_, rfl, a, ns, rfl, ha, l63, fun b c H1 _ _ B1 _ => ?_⟩
    refine name_go ?_
    dsimp only
    refine seq_go (asg_go ?_)
    refine ⟨_, rfl, _, rfl, b, c, 6, rfl, B1, by decide, by decide, fun d H2 d0 d6 B2 _ => ⟨_, _, rfl, rfl, ?_⟩⟩
    obtain ⟨d, rfl⟩ := Int.eq_ofNat_of_zero_le d0
    refine ⟨b, c, 1 + d, by show [V.ref b, V.int (1 + ((d : Nat) : Int))] = _; rw [show (1 : Int) + ((d : Nat) : Int) = ((1 + d : Nat) : Int) by omega], B2, by omega, fun R pss HR H3 hL ok => ?_⟩
    refine name_go ?_
    dsimp only
    refine seq_go (asg_go ?_)
    refine ⟨_, rfl, H3, R, pss, HR, rfl, hL, ok, fun x hx => hx, fun o H4 s4 no fo => ?_⟩
    refine name_go ?_
    dsimp only
    refine seq_go (asg_go ?_)
    refine ⟨Nat.zero_le _, fun du hdu => ?_⟩
    have s5 := same_new (o := .lst []) hdu
    refine name_go ?_
    dsimp only
    refine seq_go (asg_go ?_)
    refine name_go ?_
    dsimp only
    refine seq_go ?_
    have old4 : Old H3 H4 := fun x hx => s4.free hx
    obtain ⟨rs, eR, lr, each⟩ := hL.same s4
    have lrs : (rs.map V.ref).length = pss.length := by rw [List.length_map, lr]
    have hi := ok.hi
    refine ⟨_, rfl, R, rfl, ⟨_, SqL.of (s5 _ _ eR)⟩, ?_⟩
    refine for_list (xs := rs.map V.ref) (fun i σ H' => ∃ (du : Addr) (vj : V) (x6 x7 : Option V), σ = [some (.ref a), some (.ref b), some (.ref R), some (.ref o), some (.ref du), some vj, x6, x7] ∧ Same H4 H' ∧ H4 du = none ∧ PlcAt H' du (plF ((pss.take i).map toIs)) ∧
      ((i = 0 ∧ vj = .non) ∨ (1 ≤ i ∧ ∃ j, vj = .ref j ∧ FormAt FC MC YC KC NC OC H3 H' j (((pss.take i).map toIs).map joinJ)))) ⟨du, .non, none, none, rfl, s5, hdu, ⟨[], upd_same, rfl, fun j t x e => by cases e⟩, .inl ⟨rfl, rfl⟩⟩ (fun i σ H' _ h => by
      obtain ⟨_, _, _, _, _, sm, _⟩ := h
      exact SqL.of (sm _ _ eR)) ?_ ?_
    · rintro i x σ H5 hx ⟨du, vj, x6, x7, rfl, sm, ndu, pD, hv⟩
      have hir : i < rs.length := by
        have := (List.getElem?_eq_some_iff.mp hx).1
        rw [List.length_map] at this
        exact this
      have ex : x = .ref rs[i] := by
        rw [List.getElem?_map, List.getElem?_eq_getElem hir] at hx
        exact (Option.some.inj hx).symm
      subst ex
      have hip : i < pss.length := by omega
      have ep : pss[i]? = some pss[i] := List.getElem?_eq_getElem hip
      have mem : pss[i] ∈ pss := List.getElem_mem _
      have hr5 := (each i _ _ (List.getElem?_eq_getElem hir) ep).same sm
      have one := ok.one mem
      have old5 := old4.same sm
      -- a form of this line
      have mk : ∀ {H6 : Hp} {L : Addr}, Same H5 H6 → H6 L = some (.lst [.ref rs[i]]) → RawLin HR H6 L [pss[i]] := fun {H6 L} s6 e => ⟨[rs[i]], e, rfl, fun j r ps er eq => by
        cases j with
        | zero =>
          cases er
          cases eq
          exact hr5.same s6
        | succ j => cases er⟩
      refine name_go ?_
      dsimp only
      refine ⟨fun σ' H' => ∃ (j : Addr), σ' = [some (.ref a), some (.ref b), some (.ref R), some (.ref o), some (.ref du), some (.ref j), some (.ref rs[i]), x7] ∧ Same H4 H' ∧ FormAt FC MC YC KC NC OC H3 H' j (((pss.take (i + 1)).map toIs).map joinJ) ∧ PlcAt H' du (plF ((pss.take i).map toIs) ++ (if i = 0 then [] else [(none, feedS)])), ?_, ?_⟩
      · refine ⟨_, rfl, rfl, _, rfl, ?_⟩
        rcases hv with ⟨i0, rfl⟩ | ⟨i1, j, rfl, fj⟩
        · refine iteT ?_
          refine asg_go ?_
          refine ⟨_, rfl, line_small (by show 1 ≤ 16777216; decide), fun L nL => ?_⟩
          have s6 := same_new (o := .lst [.ref rs[i]]) nL
          refine ⟨H3, L, [pss[i]], HR, rfl, mk s6 upd_same, one, old5.same s6, fun j H7 s7 n7 fj => ?_⟩
          refine name_go ?_
          dsimp only
          have s57 := s6.trans s7
          refine ⟨j, rfl, sm.trans s57, ?_, ?_⟩
          · have e0 : ((pss.take i).map toIs).map joinJ = [] := by
              rw [i0]
              rfl
            rw [take_form ep, e0, List.nil_append]
            exact fj
          · rw [if_pos i0, List.append_nil]
            exact pD.same s57
        · refine iteF ?_
          refine seq_go (asg_go ?_)
          refine ⟨_, rfl, _, rfl, line_small (by show 1 ≤ 16777216; decide), fun L nL => ?_⟩
          have s6 := same_new (o := .lst [.ref rs[i]]) nL
          refine ⟨H3, L, [pss[i]], HR, rfl, mk s6 upd_same, one, old5.same s6, fun j2 H7 s7 n7 fj2 => ?_⟩
          have s57 := s6.trans s7
          have fj7 := fj.same s57
          obtain ⟨dxa, ua, fa, na, hha, ova, ysa, a1, _⟩ := id fj7
          obtain ⟨dxb, ub, fb, nb, hhb, ovb, ysb, b1, _⟩ := id fj2
          have lok : LinesOk (((pss.take i).map toIs).map joinJ ++ (([pss[i]].map toIs).map joinJ)) := by
            rw [← take_form ep]
            exact ((ok.take (i := i + 1) (by omega)).lines).join
          refine ⟨j, dxa, _, j2, dxb, _, rfl, rfl, a1, b1, H3, j, j2, _, _, rfl, fj7, fj2, lok, old5.same s57, fun H8 j3 s8 n8 fj3 => ?_⟩
          rw [← take_form ep, join_joined] at fj3
          refine name_go ?_
          dsimp only
          have s58 := s57.trans s8
          have pD8 := pD.same s58
          obtain ⟨ts, e1, e2, e3⟩ := id pD8
          refine ⟨.ref du, rfl, .inl ⟨rfl, _, SqL.of e1⟩, line_small (by show 2 ≤ 16777216; decide), fun t nt => ?_⟩
          have st := same_new (o := .tup [.non, .str "\n"]) nt
          obtain ⟨acc, c1, c2, c3⟩ := pD8.in.snoc (x := ((none : Option Str), feedS)) nt
          have plen := (ok.take i1).pl
          have ne : ts ≠ [] := fun z => by
            rw [z] at e2
            have z2 : (plF ((pss.take i).map toIs)).length = 0 := e2.symm
            obtain ⟨p0, r0, er⟩ : ∃ p0 r0, pss.take i = p0 :: r0 := List.exists_cons_of_ne_nil fun y => by
              have := congrArg List.length y
              rw [List.length_take, List.length_nil] at this
              omega
            rw [er] at z2
            have m0 : p0 ∈ pss := List.mem_of_mem_take (by rw [er]; exact List.mem_cons_self)
            obtain ⟨k1, k2, k3, k4⟩ := ok.each p0 m0
            cases p0 with
            | nil => cases k1
            | cons y ys =>
              have pos := raws_pos y ys k3
              have ge : ∀ (r : List (List Itm)) (acc : List (Option Str × Str)), acc.length ≤ (r.foldl (fun a q => a ++ [(none, feedS)] ++ plL q) acc).length := by
                intro r
                induction r with
                | nil => intro acc; exact Nat.le_refl _
                | cons q r ih =>
                  intro acc
                  refine Nat.le_trans ?_ (ih _)
                  rw [List.length_append, List.length_append]
                  omega
              have g2 := ge (r0.map toIs) (plL (toIs (y :: ys)))
              rw [plL_len] at g2
              have z3 : ((r0.map toIs).foldl (fun a q => a ++ [(none, feedS)] ++ plL q) (plL (toIs (y :: ys)))).length = 0 := z2
              omega
          refine ⟨du, _, _, rfl, rfl, st _ _ e1, by rw [List.length_map, e2]; exact small1000 (by omega), ?_⟩
          have c1' : upd H8 t (.tup [.non, .str feedS]) du = some (.lst (ts.map V.ref)) := by
            have := st _ _ e1
            rw [ef] at this
            exact this
          have ea : acc = ts.map V.ref := HO.lst.inj (Option.some.inj (c1.symm.trans c1'))
          rw [ea] at c3
          rw [ef]
          refine ⟨j3, rfl, fun y u e => ?_, ?_, ?_⟩
          · rw [upd_ne (ne_of_none e ndu)]
            exact same_new nt _ _ (s58 _ _ (sm _ _ e))
          · exact (fj3.same (same_new nt)).lst c1' ne
          · rw [if_neg (by omega)]
            exact c3.at
      · rintro σ' H6 ⟨j, rfl, sm6, fj, pD6⟩
        have hr6 := (each i _ _ (List.getElem?_eq_getElem hir) ep).same sm6
        obtain ⟨k1, k2, k3, k4⟩ := ok.each _ mem
        have dp := dep_toIs k4
        have sz := siz_raws fun r hr => (k4 r hr).2
        have nm : (nmRs pss[i]).length ≤ (nmP pss).length := by
          unfold nmP
          rw [List.length_flatMap]
          exact sum_mem (List.mem_map.mpr ⟨_, mem, rfl⟩)
        have fw := ok.few
        refine asg_go ?_
        refine ⟨_, rfl, _, rfl, rs[i], pss[i], HR, rfl, hr6, k3, by omega, by omega, fun l H7 s7 n7 pl => ?_⟩
        obtain ⟨ts, us, e1, e2, n1, n2, mkc⟩ := (pD6.same s7).cat pl
        have tl : (plF ((pss.take (i + 1)).map toIs)).length ≤ 200 := (ok.take (i := i + 1) (by omega)).pl
        rw [take_plF ep, List.length_append] at tl
        refine ⟨du, l, _, _, rfl, rfl, e1, e2, ?_, fun p np => ?_⟩
        · rw [List.length_map, List.length_map]
          exact line_small (by omega)
        refine name_go ?_
        dsimp only
        have s8 := same_new (o := .lst (ts.map V.ref ++ us.map V.ref)) np
        have s68 := s7.trans s8
        refine ⟨p, .ref j, _, _, rfl, sm6.trans s68, (sm6.trans s7).free np, ?_, .inr ⟨by omega, j, rfl, fj.same s68⟩⟩
        rw [take_plF ep]
        exact mkc p np
    · rintro σ H5 ⟨du, vj, x6, x7, rfl, sm, ndu, pD, hv⟩
      rw [lrs, List.take_of_length_le (Nat.le_refl _)] at pD hv
      have lo := ok.lo
      rcases hv with ⟨i0, _⟩ | ⟨_, j, rfl, fj⟩
      · omega
      · exact TT _ o du j pss H3 H5 _ _ _ _ _ (fo.same sm) fj pD (fun ps hp => (ok.each ps hp).2.2.1) (by have := ok.pl; omega) q
end
end K14

set_option autoImplicit false
set_option maxErrors 4
namespace K14
open PySem PySem.Spec PyProof.Rows L2 Tl
set_option maxHeartbeats 40000000 in
theorem facts {P : Program} {w : World} {K : PySem.W.Frag} {h : Heap} {mg : Str → Option Value} {f : Addr} (X : K.In h) (G : h.Ns mainGlobals mg) (hfa : mg ("law" : Str) = some (.ref f)) (c : Tl.SaysP fa fn sd pd ex K) :
    ∃ fd : FuncData, (∀ (s : Shared) (v : Value), BindsTo s fd ⟨[v], []⟩ [("_law_script", v)]) ∧ ∀ base : Heap, K.In base → base.Ns mainGlobals mg → FnOk P w K mg base CX0 17 f fd ["_law_script"] (spLaw K) := by
  have c0 := c.s.d
  have hex := c.s.more
  obtain ⟨e_is_integer, F_is_integer⟩ := c0.def_ 0 (d := d_is_integer) rfl
  obtain ⟨e_is_integer_within, F_is_integer_within⟩ := c0.def_ 1 (d := d_is_integer_within) rfl
  obtain ⟨e_is_row, F_is_row⟩ := c0.def_ 2 (d := d_is_row) rfl
  obtain ⟨e_is_name, F_is_name⟩ := c0.def_ 3 (d := d_is_name) rfl
  obtain ⟨e_Net_init_, F_Net_init_⟩ := c0.def_ 4 (d := d_Net_init_) rfl
  obtain ⟨e_places_by_char, F_places_by_char⟩ := c0.def_ 5 (d := d_places_by_char) rfl
  obtain ⟨e_place_count, F_place_count⟩ := c0.def_ 6 (d := d_place_count) rfl
  obtain ⟨e_run_net, F_run_net⟩ := c0.def_ 7 (d := d_run_net) rfl
  obtain ⟨e_text_net, F_text_net⟩ := c0.def_ 8 (d := d_text_net) rfl
  obtain ⟨e_or_nothing, F_or_nothing⟩ := c0.def_ 9 (d := d_or_nothing) rfl
  obtain ⟨e_renumbered, F_renumbered⟩ := c0.def_ 10 (d := d_renumbered) rfl
  obtain ⟨e_chained, F_chained⟩ := c0.def_ 11 (d := d_chained) rfl
  obtain ⟨e_side_by_side, F_side_by_side⟩ := c0.def_ 12 (d := d_side_by_side) rfl
  obtain ⟨e_line_added, F_line_added⟩ := c0.def_ 13 (d := d_line_added) rfl
  obtain ⟨e_under_each_other, F_under_each_other⟩ := c0.def_ 14 (d := d_under_each_other) rfl
  obtain ⟨e_stand_from, F_stand_from⟩ := c0.def_ 15 (d := d_stand_from) rfl
  obtain ⟨e_stand_after, F_stand_after⟩ := c0.def_ 16 (d := d_stand_after) rfl
  obtain ⟨e_takes, F_takes⟩ := c0.def_ 17 (d := d_takes) rfl
  obtain ⟨e_Signs_init_, F_Signs_init_⟩ := c0.def_ 18 (d := d_Signs_init_) rfl
  obtain ⟨e_is_sign_text, F_is_sign_text⟩ := c0.def_ 19 (d := d_is_sign_text) rfl
  obtain ⟨e_is_signs, F_is_signs⟩ := c0.def_ 20 (d := d_is_signs) rfl
  obtain ⟨e_signs_of, F_signs_of⟩ := c0.def_ 21 (d := d_signs_of) rfl
  obtain ⟨e_Kind_init_, F_Kind_init_⟩ := c0.def_ 22 (d := d_Kind_init_) rfl
  obtain ⟨e_Kind_add_, F_Kind_add_⟩ := c0.def_ 23 (d := d_Kind_add_) rfl
  obtain ⟨e_Kind_or_, F_Kind_or_⟩ := c0.def_ 24 (d := d_Kind_or_) rfl
  obtain ⟨e_Kind_eq_, F_Kind_eq_⟩ := c0.def_ 25 (d := d_Kind_eq_) rfl
  obtain ⟨e_are_bounds, F_are_bounds⟩ := c0.def_ 26 (d := d_are_bounds) rfl
  obtain ⟨e_without_repeats, F_without_repeats⟩ := c0.def_ 27 (d := d_without_repeats) rfl
  obtain ⟨e_is_too_large, F_is_too_large⟩ := c0.def_ 28 (d := d_is_too_large) rfl
  obtain ⟨e_alternative_net, F_alternative_net⟩ := c0.def_ 29 (d := d_alternative_net) rfl
  obtain ⟨e_Field_init_, F_Field_init_⟩ := c0.def_ 30 (d := d_Field_init_) rfl
  obtain ⟨e_Field_eq_, F_Field_eq_⟩ := c0.def_ 31 (d := d_Field_eq_) rfl
  obtain ⟨e_Mark_init_, F_Mark_init_⟩ := c0.def_ 32 (d := d_Mark_init_) rfl
  obtain ⟨e_Mark_eq_, F_Mark_eq_⟩ := c0.def_ 33 (d := d_Mark_eq_) rfl
  obtain ⟨e_Maybe_init_, F_Maybe_init_⟩ := c0.def_ 34 (d := d_Maybe_init_) rfl
  obtain ⟨e_Maybe_eq_, F_Maybe_eq_⟩ := c0.def_ 35 (d := d_Maybe_eq_) rfl
  obtain ⟨e_is_field_kind, F_is_field_kind⟩ := c0.def_ 36 (d := d_is_field_kind) rfl
  obtain ⟨e_is_item, F_is_item⟩ := c0.def_ 37 (d := d_is_item) rfl
  obtain ⟨e_has_own_field, F_has_own_field⟩ := c0.def_ 38 (d := d_has_own_field) rfl
  obtain ⟨e_fields_in, F_fields_in⟩ := c0.def_ 39 (d := d_fields_in) rfl
  obtain ⟨e_depth_around, F_depth_around⟩ := c0.def_ 40 (d := d_depth_around) rfl
  obtain ⟨e_item_size, F_item_size⟩ := c0.def_ 41 (d := d_item_size) rfl
  obtain ⟨e_row_size, F_row_size⟩ := c0.def_ 42 (d := d_row_size) rfl
  obtain ⟨e_joined, F_joined⟩ := c0.def_ 43 (d := d_joined) rfl
  obtain ⟨e_check_lines, F_check_lines⟩ := c0.def_ 44 (d := d_check_lines) rfl
  obtain ⟨e_is_item_row, F_is_item_row⟩ := c0.def_ 45 (d := d_is_item_row) rfl
  obtain ⟨e_lines_size, F_lines_size⟩ := c0.def_ 46 (d := d_lines_size) rfl
  obtain ⟨e_lines_net, F_lines_net⟩ := c0.def_ 47 (d := d_lines_net) rfl
  obtain ⟨e_row_net, F_row_net⟩ := c0.def_ 48 (d := d_row_net) rfl
  obtain ⟨e_item_net, F_item_net⟩ := c0.def_ 49 (d := d_item_net) rfl
  obtain ⟨e_lines_holders, F_lines_holders⟩ := c0.def_ 50 (d := d_lines_holders) rfl
  obtain ⟨e_row_holders, F_row_holders⟩ := c0.def_ 51 (d := d_row_holders) rfl
  obtain ⟨e_owner_sets, F_owner_sets⟩ := c0.def_ 52 (d := d_owner_sets) rfl
  obtain ⟨e_Form_init_, F_Form_init_⟩ := c0.def_ 53 (d := d_Form_init_) rfl
  obtain ⟨e_Form_add_, F_Form_add_⟩ := c0.def_ 54 (d := d_Form_add_) rfl
  obtain ⟨e_Form_eq_, F_Form_eq_⟩ := c0.def_ 55 (d := d_Form_eq_) rfl
  obtain ⟨e_Formplaces, F_Formplaces⟩ := c0.def_ 56 (d := d_Formplaces) rfl
  obtain ⟨e_l_bag, F_l_bag⟩ := c0.def_ 57 (d := d_l_bag) rfl
  obtain ⟨e_l_draw, F_l_draw⟩ := c0.def_ 58 (d := d_l_draw) rfl
  obtain ⟨e_l_alphabet, F_l_alphabet⟩ := c0.def_ 59 (d := d_l_alphabet) rfl
  obtain ⟨e_l_letters, F_l_letters⟩ := c0.def_ 60 (d := d_l_letters) rfl
  obtain ⟨e_l_signs, F_l_signs⟩ := c0.def_ 61 (d := d_l_signs) rfl
  obtain ⟨e_l_run, F_l_run⟩ := c0.def_ 62 (d := d_l_run) rfl
  obtain ⟨e_l_rows, F_l_rows⟩ := c0.def_ 63 (d := d_l_rows) rfl
  obtain ⟨e_l_names, F_l_names⟩ := c0.def_ 64 (d := d_l_names) rfl
  obtain ⟨e_l_row, F_l_row⟩ := c0.def_ 65 (d := d_l_row) rfl
  obtain ⟨e_l_lines, F_l_lines⟩ := c0.def_ 66 (d := d_l_lines) rfl
  obtain ⟨e_l_kind, F_l_kind⟩ := c0.def_ 67 (d := d_l_kind) rfl
  obtain ⟨e_l_items, F_l_items⟩ := c0.def_ 68 (d := d_l_items) rfl
  obtain ⟨e_l_make, F_l_make⟩ := c0.def_ 69 (d := d_l_make) rfl
  obtain ⟨e_l_kept, F_l_kept⟩ := c0.def_ 70 (d := d_l_kept) rfl
  obtain ⟨e_l_kind_places, F_l_kind_places⟩ := c0.def_ 71 (d := d_l_kind_places) rfl
  obtain ⟨e_l_row_places, F_l_row_places⟩ := c0.def_ 72 (d := d_l_row_places) rfl
  obtain ⟨e_l_is_places, F_l_is_places⟩ := c0.def_ 73 (d := d_l_is_places) rfl
  obtain ⟨e_law, F_law⟩ := c0.def_ 74 (d := d_law) rfl
  obtain ⟨SR, e_Kindrun, F_Kindrun⟩ := c.s.st ⟨"Kind", "run", d_Kindrun⟩ List.mem_cons_self
  obtain ⟨⟨pH, PH⟩, e_Kindhas_empty, F_Kindhas_empty⟩ := c.pr ⟨"Kind", "has_empty", d_Kindhas_empty⟩ List.mem_cons_self
  have e := hfa.symm.trans (He.glo_ok X G (c0.fact 58 (f := .glo "law") rfl))
  cases e
  have b_is_integer := FunD.bindsN (ps := ["thing"]) F_is_integer fun _ _ _ _ _ _ us hl => match us, hl with | [_], _ => rfl
  have b_is_integer_within := FunD.bindsN (ps := ["thing", "low", "high"]) F_is_integer_within fun _ _ _ _ _ _ us hl => match us, hl with | [_, _, _], _ => rfl
  have b_is_row := FunD.bindsN (ps := ["thing"]) F_is_row fun _ _ _ _ _ _ us hl => match us, hl with | [_], _ => rfl
  have b_is_name := FunD.bindsN (ps := ["thing"]) F_is_name fun _ _ _ _ _ _ us hl => match us, hl with | [_], _ => rfl
  have b_Net_init_ := FunD.bindsN (ps := ["self", "chars", "follow", "exits"]) F_Net_init_ fun _ _ _ _ _ _ us hl => match us, hl with | [_, _, _, _], _ => rfl
  have b_places_by_char := FunD.bindsN (ps := ["chars"]) F_places_by_char fun _ _ _ _ _ _ us hl => match us, hl with | [_], _ => rfl
  have b_place_count := FunD.bindsN (ps := ["least", "most"]) F_place_count fun _ _ _ _ _ _ us hl => match us, hl with | [_, _], _ => rfl
  have b_run_net := FunD.bindsN (ps := ["signs", "least", "most"]) F_run_net fun _ _ _ _ _ _ us hl => match us, hl with | [_, _, _], _ => rfl
  have b_text_net := FunD.bindsN (ps := ["text"]) F_text_net fun _ _ _ _ _ _ us hl => match us, hl with | [_], _ => rfl
  have b_or_nothing := FunD.bindsN (ps := ["net"]) F_or_nothing fun _ _ _ _ _ _ us hl => match us, hl with | [_], _ => rfl
  have b_renumbered := FunD.bindsN (ps := ["places", "shift"]) F_renumbered fun _ _ _ _ _ _ us hl => match us, hl with | [_, _], _ => rfl
  have b_chained := FunD.bindsN (ps := ["nets"]) F_chained fun _ _ _ _ _ _ us hl => match us, hl with | [_], _ => rfl
  have b_side_by_side := FunD.bindsN (ps := ["nets"]) F_side_by_side fun _ _ _ _ _ _ us hl => match us, hl with | [_], _ => rfl
  have b_line_added := FunD.bindsN (ps := ["above", "line"]) F_line_added fun _ _ _ _ _ _ us hl => match us, hl with | [_, _], _ => rfl
  have b_under_each_other := FunD.bindsN (ps := ["nets"]) F_under_each_other fun _ _ _ _ _ _ us hl => match us, hl with | [_], _ => rfl
  have b_stand_from := FunD.bindsN (ps := ["net", "start", "text"]) F_stand_from fun _ _ _ _ _ _ us hl => match us, hl with | [_, _, _], _ => rfl
  have b_stand_after := FunD.bindsN (ps := ["net", "text"]) F_stand_after fun _ _ _ _ _ _ us hl => match us, hl with | [_, _], _ => rfl
  have b_takes := FunD.bindsN (ps := ["net", "text"]) F_takes fun _ _ _ _ _ _ us hl => match us, hl with | [_, _], _ => rfl
  have b_is_sign_text := FunD.bindsN (ps := ["thing"]) F_is_sign_text fun _ _ _ _ _ _ us hl => match us, hl with | [_], _ => rfl
  have b_is_signs := FunD.bindsN (ps := ["thing"]) F_is_signs fun _ _ _ _ _ _ us hl => match us, hl with | [_], _ => rfl
  have b_signs_of := FunD.bindsN (ps := ["thing"]) F_signs_of fun _ _ _ _ _ _ us hl => match us, hl with | [_], _ => rfl
  have b_Kind_init_ := FunD.bindsN (ps := ["self", "rows"]) F_Kind_init_ fun _ _ _ _ _ _ us hl => match us, hl with | [_, _], _ => rfl
  have b_Kind_add_ := FunD.bindsN (ps := ["self", "other"]) F_Kind_add_ fun _ _ _ _ _ _ us hl => match us, hl with | [_, _], _ => rfl
  have b_Kind_or_ := FunD.bindsN (ps := ["self", "other"]) F_Kind_or_ fun _ _ _ _ _ _ us hl => match us, hl with | [_, _], _ => rfl
  have b_Kind_eq_ := FunD.bindsN (ps := ["self", "other"]) F_Kind_eq_ fun _ _ _ _ _ _ us hl => match us, hl with | [_, _], _ => rfl
  have b_are_bounds := FunD.bindsN (ps := ["least", "most"]) F_are_bounds fun _ _ _ _ _ _ us hl => match us, hl with | [_, _], _ => rfl
  have b_without_repeats := FunD.bindsN (ps := ["rows"]) F_without_repeats fun _ _ _ _ _ _ us hl => match us, hl with | [_], _ => rfl
  have b_is_too_large := FunD.bindsN (ps := ["rows"]) F_is_too_large fun _ _ _ _ _ _ us hl => match us, hl with | [_], _ => rfl
  have b_alternative_net := FunD.bindsN (ps := ["row"]) F_alternative_net fun _ _ _ _ _ _ us hl => match us, hl with | [_], _ => rfl
  have b_Field_init_ := FunD.bindsN (ps := ["self", "name", "kind"]) F_Field_init_ fun _ _ _ _ _ _ us hl => match us, hl with | [_, _, _], _ => rfl
  have b_Field_eq_ := FunD.bindsN (ps := ["self", "other"]) F_Field_eq_ fun _ _ _ _ _ _ us hl => match us, hl with | [_, _], _ => rfl
  have b_Mark_init_ := FunD.bindsN (ps := ["self", "text"]) F_Mark_init_ fun _ _ _ _ _ _ us hl => match us, hl with | [_, _], _ => rfl
  have b_Mark_eq_ := FunD.bindsN (ps := ["self", "other"]) F_Mark_eq_ fun _ _ _ _ _ _ us hl => match us, hl with | [_, _], _ => rfl
  have b_Maybe_init_ := FunD.bindsN (ps := ["self", "parts"]) F_Maybe_init_ fun _ _ _ _ _ _ us hl => match us, hl with | [_, _], _ => rfl
  have b_Maybe_eq_ := FunD.bindsN (ps := ["self", "other"]) F_Maybe_eq_ fun _ _ _ _ _ _ us hl => match us, hl with | [_, _], _ => rfl
  have b_is_field_kind := FunD.bindsN (ps := ["thing"]) F_is_field_kind fun _ _ _ _ _ _ us hl => match us, hl with | [_], _ => rfl
  have b_is_item := FunD.bindsN (ps := ["thing"]) F_is_item fun _ _ _ _ _ _ us hl => match us, hl with | [_], _ => rfl
  have b_has_own_field := FunD.bindsN (ps := ["row"]) F_has_own_field fun _ _ _ _ _ _ us hl => match us, hl with | [_], _ => rfl
  have b_fields_in := FunD.bindsN (ps := ["row"]) F_fields_in fun _ _ _ _ _ _ us hl => match us, hl with | [_], _ => rfl
  have b_depth_around := FunD.bindsN (ps := ["parts"]) F_depth_around fun _ _ _ _ _ _ us hl => match us, hl with | [_], _ => rfl
  have b_item_size := FunD.bindsN (ps := ["item"]) F_item_size fun _ _ _ _ _ _ us hl => match us, hl with | [_], _ => rfl
  have b_row_size := FunD.bindsN (ps := ["row"]) F_row_size fun _ _ _ _ _ _ us hl => match us, hl with | [_], _ => rfl
  have b_joined := FunD.bindsN (ps := ["row"]) F_joined fun _ _ _ _ _ _ us hl => match us, hl with | [_], _ => rfl
  have b_check_lines := FunD.bindsN (ps := ["lines"]) F_check_lines fun _ _ _ _ _ _ us hl => match us, hl with | [_], _ => rfl
  have b_is_item_row := FunD.bindsN (ps := ["thing"]) F_is_item_row fun _ _ _ _ _ _ us hl => match us, hl with | [_], _ => rfl
  have b_lines_size := FunD.bindsN (ps := ["lines"]) F_lines_size fun _ _ _ _ _ _ us hl => match us, hl with | [_], _ => rfl
  have b_lines_net := FunD.bindsN (ps := ["lines"]) F_lines_net fun _ _ _ _ _ _ us hl => match us, hl with | [_], _ => rfl
  have b_row_net := FunD.bindsN (ps := ["row"]) F_row_net fun _ _ _ _ _ _ us hl => match us, hl with | [_], _ => rfl
  have b_item_net := FunD.bindsN (ps := ["item"]) F_item_net fun _ _ _ _ _ _ us hl => match us, hl with | [_], _ => rfl
  have b_lines_holders := FunD.bindsN (ps := ["lines"]) F_lines_holders fun _ _ _ _ _ _ us hl => match us, hl with | [_], _ => rfl
  have b_row_holders := FunD.bindsN (ps := ["row"]) F_row_holders fun _ _ _ _ _ _ us hl => match us, hl with | [_], _ => rfl
  have b_owner_sets := FunD.bindsN (ps := ["holders"]) F_owner_sets fun _ _ _ _ _ _ us hl => match us, hl with | [_], _ => rfl
  have b_Form_init_ := FunD.bindsN (ps := ["self", "lines"]) F_Form_init_ fun _ _ _ _ _ _ us hl => match us, hl with | [_, _], _ => rfl
  have b_Form_add_ := FunD.bindsN (ps := ["self", "other"]) F_Form_add_ fun _ _ _ _ _ _ us hl => match us, hl with | [_, _], _ => rfl
  have b_Form_eq_ := FunD.bindsN (ps := ["self", "other"]) F_Form_eq_ fun _ _ _ _ _ _ us hl => match us, hl with | [_, _], _ => rfl
  have b_Formplaces := FunD.bindsN (ps := ["self"]) F_Formplaces fun _ _ _ _ _ _ us hl => match us, hl with | [_], _ => rfl
  have b_l_bag := FunD.bindsN (ps := ["_law_script"]) F_l_bag fun _ _ _ _ _ _ us hl => match us, hl with | [_], _ => rfl
  have b_l_draw := FunD.bindsN (ps := ["_law_bag_here", "_law_limit"]) F_l_draw fun _ _ _ _ _ _ us hl => match us, hl with | [_, _], _ => rfl
  have b_l_alphabet := FunD.bindsN (ps := []) F_l_alphabet fun _ _ _ _ _ _ us hl => match us, hl with | [], _ => rfl
  have b_l_letters := FunD.bindsN (ps := ["_law_bag_here", "_law_many"]) F_l_letters fun _ _ _ _ _ _ us hl => match us, hl with | [_, _], _ => rfl
  have b_l_signs := FunD.bindsN (ps := ["_law_bag_here", "_law_letters_here"]) F_l_signs fun _ _ _ _ _ _ us hl => match us, hl with | [_, _], _ => rfl
  have b_l_run := FunD.bindsN (ps := ["_law_bag_here", "_law_letters_here"]) F_l_run fun _ _ _ _ _ _ us hl => match us, hl with | [_, _], _ => rfl
  have b_l_rows := FunD.bindsN (ps := ["_law_bag_here", "_law_letters_here"]) F_l_rows fun _ _ _ _ _ _ us hl => match us, hl with | [_, _], _ => rfl
  have b_l_names := FunD.bindsN (ps := ["_law_bag_here", "_law_many"]) F_l_names fun _ _ _ _ _ _ us hl => match us, hl with | [_, _], _ => rfl
  have b_l_row := FunD.bindsN (ps := ["_law_bag_here", "_law_letters_here", "_law_names_here", "_law_deep"]) F_l_row fun _ _ _ _ _ _ us hl => match us, hl with | [_, _, _, _], _ => rfl
  have b_l_lines := FunD.bindsN (ps := ["_law_bag_here", "_law_many"]) F_l_lines fun _ _ _ _ _ _ us hl => match us, hl with | [_, _], _ => rfl
  have b_l_kind := FunD.bindsN (ps := ["_law_rows_here"]) F_l_kind fun _ _ _ _ _ _ us hl => match us, hl with | [_], _ => rfl
  have b_l_items := FunD.bindsN (ps := ["_law_row_here"]) F_l_items fun _ _ _ _ _ _ us hl => match us, hl with | [_], _ => rfl
  have b_l_make := FunD.bindsN (ps := ["_law_lines_here"]) F_l_make fun _ _ _ _ _ _ us hl => match us, hl with | [_], _ => rfl
  have b_l_kept := FunD.bindsN (ps := ["_law_rows_here"]) F_l_kept fun _ _ _ _ _ _ us hl => match us, hl with | [_], _ => rfl
  have b_l_kind_places := FunD.bindsN (ps := ["_law_rows_here"]) F_l_kind_places fun _ _ _ _ _ _ us hl => match us, hl with | [_], _ => rfl
  have b_l_row_places := FunD.bindsN (ps := ["_law_row_here"]) F_l_row_places fun _ _ _ _ _ _ us hl => match us, hl with | [_], _ => rfl
  have b_l_is_places := FunD.bindsN (ps := ["_law_told"]) F_l_is_places fun _ _ _ _ _ _ us hl => match us, hl with | [_], _ => rfl
  have b_Kindhas_empty := FunD.bindsN (ps := ["self"]) F_Kindhas_empty fun _ _ _ _ _ _ us hl => match us, hl with | [_], _ => rfl
  have bI1 := FunD.binds1 (ps := ["self", "text"]) F_Signs_init_ 2 1 (by intro z; cases z) rfl fun _ _ _ _ _ _ _ us its hu hi => match us, its, hu, hi with | [_, _], [_], _, _ => ⟨_, rfl, rfl⟩
  have bI0 := FunD.binds1 (ps := ["self", "text"]) F_Signs_init_ 1 0 (by intro z; cases z) rfl fun _ _ _ _ _ _ _ us its hu hi => match us, its, hu, hi with | [_], [_], _, _ => ⟨_, rfl, rfl⟩
  have bR3 := FunD.binds1 (ps := ["signs", "least", "most"]) F_Kindrun 3 2 (by intro z; cases z) rfl fun _ _ _ _ _ _ _ us its hu hi => match us, its, hu, hi with | [_, _, _], [_, _], _, _ => ⟨_, rfl, rfl⟩
  obtain ⟨y0, y1⟩ := He.ba hex
  obtain ⟨xf, xs⟩ := He.ba y0
  obtain ⟨x3, x4⟩ := He.ba xs
  obtain ⟨x5, x67⟩ := He.ba y1
  obtain ⟨x6, x7⟩ := He.ba x67
  have Fm := famB_ok xf
  have SeS := seesB_ok x3
  have SeK := seesB_ok x4
  have Ap := apartB_ok x5
  have sf := of_decide_eq_true x6
  have sfO := of_decide_eq_true x7
  have N : Nms mg := ⟨(He.free_ok X G (c0.fact 114 (f := .free "isinstance") rfl)), (He.free_ok X G (c0.fact 115 (f := .free "int") rfl)), (He.free_ok X G (c0.fact 116 (f := .free "bool") rfl)), (He.free_ok X G (c0.fact 117 (f := .free "list") rfl)), (He.free_ok X G (c0.fact 118 (f := .free "tuple") rfl)), (He.free_ok X G (c0.fact 119 (f := .free "str") rfl)), (He.free_ok X G (c0.fact 120 (f := .free "all") rfl)), (He.free_ok X G (c0.fact 121 (f := .free "any") rfl)), (He.free_ok X G (c0.fact 122 (f := .free "sum") rfl)), (He.free_ok X G (c0.fact 123 (f := .free "len") rfl)), (He.free_ok X G (c0.fact 124 (f := .free "enumerate") rfl)), (He.free_ok X G (c0.fact 125 (f := .free "range") rfl)), (He.free_ok X G (c0.fact 126 (f := .free "max") rfl)), (He.free_ok X G (c0.fact 127 (f := .free "sorted") rfl))⟩
  have Co : Cons mg := ⟨(He.int_ok X G (c0.fact 130 (f := .int "START" 1) rfl)), (He.int_ok X G (c0.fact 131 (f := .int "MOST_ALTERNATIVES" 20) rfl)), (He.int_ok X G (c0.fact 132 (f := .int "MOST_RUNS" 20) rfl)), (He.int_ok X G (c0.fact 133 (f := .int "MOST_PLACES_kinds" 120) rfl)), (He.int_ok X G (c0.fact 134 (f := .int "HIGHEST_BOUND" 40) rfl))⟩
  obtain ⟨tS, gS⟩ := He.str_ok X G (c0.fact 141 (f := .str "SIGNS" " !\"#$&'()*+,-./0123456789:;<=>?@ABCDEFGHIJKLMNOPQRSTUVWXYZ[\\]^_`abcdefghijklmnopqrstuvwxyz{|}~") rfl)
  have eS : mg ("SIGNS" : Str) = some (.str (tx alpha) tS) := gS.trans (congrArg (fun z => some (Value.str z tS)) (by decide +kernel))
  obtain ⟨tG, gG⟩ := He.str_ok X G (c0.fact 142 (f := .str "FEED" "\n") rfl)
  have gFeed : ∃ t, mg "FEED" = some (.str feedS t) := ⟨tG, gG.trans (congrArg (fun z => some (Value.str z tG)) (by decide +kernel))⟩
  have T : Txt K mg (He.ga K "Signs") := { cl := (He.cls_ok (c0.fact 60 (f := .cls "Signs") rfl)), nS := (He.noat_ok (c0.fact 63 (f := .noat "Signs" "signs") rfl)), gC := (He.glo_ok X G (c0.fact 59 (f := .glo "Signs") rfl)), sgn := ⟨tS, eS⟩, kStr := Ap.no _ (by decide), kOwn := Ap.own, sStr := Ap.off _ (by decide), c1 := SeS.c1, c2 := SeS.c2, c3 := SeS.c3, c4 := SeS.c4 }
  have TN : NetC K (He.ga K "Net") := ⟨(He.cls_ok (c0.fact 65 (f := .cls "Net") rfl)), (He.noat_ok (c0.fact 68 (f := .noat "Net" "chars") rfl)), (He.noat_ok (c0.fact 69 (f := .noat "Net" "follow") rfl)), (He.noat_ok (c0.fact 70 (f := .noat "Net" "exits") rfl)), (He.noat_ok (c0.fact 71 (f := .noat "Net" "stands_for") rfl))⟩
  have TK : KindC K (He.ga K "Kind") := ⟨(He.cls_ok (c0.fact 73 (f := .cls "Kind") rfl)), (He.noat_ok (c0.fact 79 (f := .noat "Kind" "rows") rfl)), (He.noat_ok (c0.fact 80 (f := .noat "Kind" "net") rfl))⟩
  have gK := (He.glo_ok X G (c0.fact 72 (f := .glo "Kind") rfl))
  have PB : Plain K mg "BadKind" (He.ga K "BadKind") := by
    obtain ⟨z1, z2, z3, z4⟩ := He.exc_ok (c0.fact 113 (f := .exc "BadKind") rfl)
    exact ⟨(He.glo_ok X G (c0.fact 112 (f := .glo "BadKind") rfl)), z1, z2, z3, z4⟩
  have W : Town K mg (He.ga K "Signs") (He.ga K "Kind") (He.ga K "Net") (He.ga K "Field") (He.ga K "Mark") (He.ga K "Maybe") (He.ga K "Form") := { fam := Fm, kd := TK, net := TN, gK := gK, clF := (He.cls_ok (c0.fact 82 (f := .cls "Field") rfl)), clM := (He.cls_ok (c0.fact 89 (f := .cls "Mark") rfl)), clY := (He.cls_ok (c0.fact 95 (f := .cls "Maybe") rfl)), clO := (He.cls_ok (c0.fact 101 (f := .cls "Form") rfl)), gF := (He.glo_ok X G (c0.fact 81 (f := .glo "Field") rfl)), gM := (He.glo_ok X G (c0.fact 88 (f := .glo "Mark") rfl)), gY := (He.glo_ok X G (c0.fact 94 (f := .glo "Maybe") rfl)), gO := (He.glo_ok X G (c0.fact 100 (f := .glo "Form") rfl)), nF1 := (He.noat_ok (c0.fact 86 (f := .noat "Field" "name") rfl)), nF2 := (He.noat_ok (c0.fact 87 (f := .noat "Field" "kind") rfl)), nM := (He.noat_ok (c0.fact 93 (f := .noat "Mark" "text") rfl)), nY := (He.noat_ok (c0.fact 99 (f := .noat "Maybe" "parts") rfl)), nO1 := (He.noat_ok (c0.fact 107 (f := .noat "Form" "lines") rfl)), nO2 := (He.noat_ok (c0.fact 108 (f := .noat "Form" "fields") rfl)), nO3 := (He.noat_ok (c0.fact 109 (f := .noat "Form" "net") rfl)), nO4 := (He.noat_ok (c0.fact 110 (f := .noat "Form" "holders") rfl)), nO5 := (He.noat_ok (c0.fact 111 (f := .noat "Form" "owner_sets") rfl)), name := (He.int_ok X G (c0.fact 135 (f := .int "LONGEST_NAME" 12) rfl)), mark := (He.int_ok X G (c0.fact 136 (f := .int "LONGEST_MARK" 200) rfl)), deep := (He.int_ok X G (c0.fact 137 (f := .int "DEEPEST_GROUP" 3) rfl)), size := (He.int_ok X G (c0.fact 138 (f := .int "MOST_PLACES_items" 200) rfl)), lines := (He.int_ok X G (c0.fact 139 (f := .int "MOST_LINES" 10) rfl)), fields := (He.int_ok X G (c0.fact 140 (f := .int "MOST_FIELDS" 12) rfl)) }
  have MI := (He.mkr_ok (c0.fact 61 (f := .mkr "Signs") rfl))
  have mAdd := (He.meth_ok (c0.fact 76 (f := .meth "Kind" "__add__") rfl))
  have mOr := (He.meth_ok (c0.fact 77 (f := .meth "Kind" "__or__") rfl))
  have mKe := (He.meth_ok (c0.fact 78 (f := .meth "Kind" "__eq__") rfl))
  have mFe := (He.meth_ok (c0.fact 85 (f := .meth "Field" "__eq__") rfl))
  have mMe := (He.meth_ok (c0.fact 92 (f := .meth "Mark" "__eq__") rfl))
  have mYe := (He.meth_ok (c0.fact 98 (f := .meth "Maybe" "__eq__") rfl))
  have mOe := (He.meth_ok (c0.fact 105 (f := .meth "Form" "__eq__") rfl))
  have mOa := (He.meth_ok (c0.fact 104 (f := .meth "Form" "__add__") rfl))
  have mOp := (He.meth_ok (c0.fact 106 (f := .meth "Form" "places") rfl))
  have gz := (He.free_ok X G (c0.fact 129 (f := .free "zip") rfl))
  refine ⟨e_law, fun s v => FunD.bindsA (ps := ["_law_script"]) F_law (fun _ _ _ _ _ _ us hl => match us, hl with | [_], _ => rfl) s [v] rfl, fun base _ _ => ?_⟩
  have c_is_integer : Can P w K mg base CX0 "is_integer" ["thing"] 1 (spIsInt K) := ⟨_, e_is_integer, ok_is_integer F_is_integer N, (He.glo_ok X G (c0.fact 0 (f := .glo "is_integer") rfl)), F_is_integer.kp, b_is_integer⟩
  have c_is_integer_within : Can P w K mg base CX0 "is_integer_within" ["thing", "low", "high"] 2 (spWithin K) := ⟨_, e_is_integer_within, ok_within F_is_integer_within c_is_integer, (He.glo_ok X G (c0.fact 1 (f := .glo "is_integer_within") rfl)), F_is_integer_within.kp, b_is_integer_within⟩
  have c_place_count : Can P w K mg base CX0 "place_count" ["least", "most"] 1 spPc := ⟨_, e_place_count, ok_place_count F_place_count N, (He.glo_ok X G (c0.fact 5 (f := .glo "place_count") rfl)), F_place_count.kp, b_place_count⟩
  have c_renumbered : Can P w K mg base CX0 "renumbered" ["places", "shift"] 1 spRen := ⟨_, e_renumbered, ok_ren F_renumbered Co.start, (He.glo_ok X G (c0.fact 9 (f := .glo "renumbered") rfl)), F_renumbered.kp, b_renumbered⟩
  have c_places_by_char : Can P w K mg base CX0 "places_by_char" ["chars"] 1 spPbc := ⟨_, e_places_by_char, ok_pbc F_places_by_char N, (He.glo_ok X G (c0.fact 4 (f := .glo "places_by_char") rfl)), F_places_by_char.kp, b_places_by_char⟩
  have cNet : CanNet P w K mg base (He.ga K "Net") 2 := ok_net_init F_Net_init_ TN (He.mkr_ok (c0.fact 66 (f := .mkr "Net") rfl)) (He.glo_ok X G (c0.fact 64 (f := .glo "Net") rfl)) b_Net_init_ c_places_by_char
  have c_run_net : Can P w K mg base CX0 "run_net" ["signs", "least", "most"] 4 (spRunNet (He.ga K "Net")) := ⟨_, e_run_net, ok_run_net F_run_net N c_place_count cNet, (He.glo_ok X G (c0.fact 6 (f := .glo "run_net") rfl)), F_run_net.kp, b_run_net⟩
  have c_chained : Can P w K mg base CX0 "chained" ["nets"] 4 (spNets (He.ga K "Net") chainL) := ⟨_, e_chained, ok_chained F_chained N Co.start TN c_renumbered cNet, (He.glo_ok X G (c0.fact 10 (f := .glo "chained") rfl)), F_chained.kp, b_chained⟩
  have c_side_by_side : Can P w K mg base CX0 "side_by_side" ["nets"] 4 (spNets (He.ga K "Net") sideL) := ⟨_, e_side_by_side, ok_side F_side_by_side N TN c_renumbered cNet, (He.glo_ok X G (c0.fact 11 (f := .glo "side_by_side") rfl)), F_side_by_side.kp, b_side_by_side⟩
  have c_alternative_net : Can P w K mg base CX0 "alternative_net" ["row"] 5 (spAlt (He.ga K "Net")) := ⟨_, e_alternative_net, ok_alt F_alternative_net c_chained c_run_net, (He.glo_ok X G (c0.fact 23 (f := .glo "alternative_net") rfl)), F_alternative_net.kp, b_alternative_net⟩
  have c_without_repeats : Can P w K mg base CX0 "without_repeats" ["rows"] 1 spWr := ⟨_, e_without_repeats, ok_without F_without_repeats N, (He.glo_ok X G (c0.fact 21 (f := .glo "without_repeats") rfl)), F_without_repeats.kp, b_without_repeats⟩
  have c_is_too_large : Can P w K mg base CX0 "is_too_large" ["rows"] 2 spToo := ⟨_, e_is_too_large, ok_too F_is_too_large N Co c_place_count, (He.glo_ok X G (c0.fact 22 (f := .glo "is_too_large") rfl)), F_is_too_large.kp, b_is_too_large⟩
  have c_is_sign_text : Can P w K mg base CX0 "is_sign_text" ["thing"] 1 (spTextA K (He.ga K "Signs")) := ⟨_, e_is_sign_text, ok_is_sign_text F_is_sign_text T N, (He.glo_ok X G (c0.fact 17 (f := .glo "is_sign_text") rfl)), F_is_sign_text.kp, b_is_sign_text⟩
  have c_is_signs : Can P w K mg base CX0 "is_signs" ["thing"] 2 (spSigns K (He.ga K "Signs")) := ⟨_, e_is_signs, ok_is_signs F_is_signs T N c_is_sign_text, (He.glo_ok X G (c0.fact 18 (f := .glo "is_signs") rfl)), F_is_signs.kp, b_is_signs⟩
  have cMk : CanMk P w K mg base (He.ga K "Signs") := by
    obtain ⟨fT, fdT, GT, gT, kT, bT⟩ := c_is_sign_text
    obtain ⟨d1, v1, b1⟩ := bI1
    obtain ⟨d0, v0, b0⟩ := bI0
    have e1 : d1 = [] := by cases v1; rfl
    subst e1
    exact ⟨_, e_Signs_init_, MI, ok_init F_Signs_init_ T GT gT kT bT, b1, d0, v0, b0⟩
  have c_signs_of : Can P w K mg base CX0 "signs_of" ["thing"] 4 (spOf (He.ga K "Signs")) := ⟨_, e_signs_of, ok_signs_of F_signs_of T N cMk, (He.glo_ok X G (c0.fact 19 (f := .glo "signs_of") rfl)), F_signs_of.kp, b_signs_of⟩
  have c_are_bounds : Can P w K mg base CX0 "are_bounds" ["least", "most"] 3 (spBounds K) := ⟨_, e_are_bounds, ok_bounds F_are_bounds Co c_is_integer_within, (He.glo_ok X G (c0.fact 20 (f := .glo "are_bounds") rfl)), F_are_bounds.kp, b_are_bounds⟩
  have cKind : CanKind P w K mg base (He.ga K "Net") (He.ga K "Kind") (He.ga K "BadKind") := ⟨_, e_Kind_init_, (He.mkr_ok (c0.fact 74 (f := .mkr "Kind") rfl)), gK, b_Kind_init_, ok_kinit F_Kind_init_ TK PB c_without_repeats c_is_too_large c_side_by_side c_alternative_net⟩
  have gRun := ok_run F_Kindrun PB cKind c_is_signs c_are_bounds c_signs_of
  have gAdd := ok_add F_Kind_add_ TK cKind
  have gOr := ok_or F_Kind_or_ N TK SeK T.gC Ap.dS cKind
  obtain ⟨d3, v3, b3⟩ := bR3
  have e3 : d3 = [] := by cases v3; rfl
  subst e3
  have O : Ops P w K mg base (He.ga K "Net") (He.ga K "Kind") (He.ga K "BadKind") (He.ga K "Signs") := ⟨sf, TK, gK, ⟨_, _, SR, gRun, b3⟩, ⟨_, _, ⟨mAdd.at_, mAdd.fn⟩, gAdd, b_Kind_add_⟩, ⟨_, _, ⟨mOr.at_, mOr.fn⟩, gOr, b_Kind_or_⟩⟩
  have c_stand_from : Can P w K mg base CX0 "stand_from" ["net", "start", "text"] 1 spSf0 := ⟨_, e_stand_from, ok_sf0 F_stand_from, (He.glo_ok X G (c0.fact 14 (f := .glo "stand_from") rfl)), F_stand_from.kp, b_stand_from⟩
  have c_stand_after : Can P w K mg base CX0 "stand_after" ["net", "text"] 2 spSa0 := ⟨_, e_stand_after, ok_sa0 F_stand_after Co.start c_stand_from, (He.glo_ok X G (c0.fact 15 (f := .glo "stand_after") rfl)), F_stand_after.kp, b_stand_after⟩
  have c_takes : Can P w K mg base CX0 "takes" ["net", "text"] 3 (spTk0 (He.ga K "Net")) := ⟨_, e_takes, ok_tk0 F_takes W c_stand_after, (He.glo_ok X G (c0.fact 16 (f := .glo "takes") rfl)), F_takes.kp, b_takes⟩
  have g_he := ok_he F_Kindhas_empty W c_takes
  have c_is_row : Can P w K mg base CX0 "is_row" ["thing"] 1 (spRowL K) := ⟨_, e_is_row, ok_is_row F_is_row N, (He.glo_ok X G (c0.fact 2 (f := .glo "is_row") rfl)), F_is_row.kp, b_is_row⟩
  have c_is_name : Can P w K mg base CX0 "is_name" ["thing"] 1 spName := ⟨_, e_is_name, ok_is_name F_is_name W N, (He.glo_ok X G (c0.fact 3 (f := .glo "is_name") rfl)), F_is_name.kp, b_is_name⟩
  have c_is_field_kind : Can P w K mg base CX0 "is_field_kind" ["thing"] 6 (spFk (He.ga K "Kind") (He.ga K "Net")) := ⟨_, e_is_field_kind, ok_fk F_is_field_kind W N PH g_he b_Kindhas_empty, (He.glo_ok X G (c0.fact 24 (f := .glo "is_field_kind") rfl)), F_is_field_kind.kp, b_is_field_kind⟩
  have c_text_net : Can P w K mg base CX0 "text_net" ["text"] 4 (spTextN (He.ga K "Net")) := ⟨_, e_text_net, ok_text_net F_text_net N cNet, (He.glo_ok X G (c0.fact 7 (f := .glo "text_net") rfl)), F_text_net.kp, b_text_net⟩
  have c_or_nothing : Can P w K mg base CX0 "or_nothing" ["net"] 4 (spOrN (He.ga K "Net")) := ⟨_, e_or_nothing, ok_or_nothing F_or_nothing Co.start TN cNet, (He.glo_ok X G (c0.fact 8 (f := .glo "or_nothing") rfl)), F_or_nothing.kp, b_or_nothing⟩
  have c_line_added : Can P w K mg base CX0 "line_added" ["above", "line"] 4 (spLineA (He.ga K "Net")) := ⟨_, e_line_added, ok_line F_line_added N Co.start gFeed TN c_renumbered cNet, (He.glo_ok X G (c0.fact 12 (f := .glo "line_added") rfl)), F_line_added.kp, b_line_added⟩
  have c_owner_sets : Can P w K mg base CX0 "owner_sets" ["holders"] 1 spOs := ⟨_, e_owner_sets, ok_os F_owner_sets N, (He.glo_ok X G (c0.fact 40 (f := .glo "owner_sets") rfl)), F_owner_sets.kp, b_owner_sets⟩
  have cField : CanField P w K mg base (He.ga K "Field") (He.ga K "Kind") (He.ga K "Net") := ⟨_, e_Field_init_, (He.mkr_ok (c0.fact 83 (f := .mkr "Field") rfl)), (He.glo_ok X G (c0.fact 81 (f := .glo "Field") rfl)), b_Field_init_, ok_f_init F_Field_init_ W c_is_name c_is_field_kind⟩
  have cMark : CanMark P w K mg base (He.ga K "Mark") := ⟨_, e_Mark_init_, (He.mkr_ok (c0.fact 90 (f := .mkr "Mark") rfl)), (He.glo_ok X G (c0.fact 88 (f := .glo "Mark") rfl)), b_Mark_init_, ok_m_init F_Mark_init_ W N c_is_sign_text⟩
  have cMaybe : ∀ HB : Hp, CanMaybe P w K mg base (He.ga K "Field") (He.ga K "Mark") (He.ga K "Maybe") (He.ga K "Kind") (He.ga K "Net") HB := fun HB => by
    have c_is_item : Can P w K mg base CX0 "is_item" ["thing"] 1 (spItem (He.ga K "Field") (He.ga K "Mark") (He.ga K "Maybe") (He.ga K "Kind") (He.ga K "Net") HB) := ⟨_, e_is_item, ok_is_item F_is_item W N, (He.glo_ok X G (c0.fact 25 (f := .glo "is_item") rfl)), F_is_item.kp, b_is_item⟩
    have sz := ok_sizes (P := P) (w := w) (base := base) (HB := HB) F_row_size F_item_size W N (He.glo_ok X G (c0.fact 30 (f := .glo "row_size") rfl)) F_row_size.kp b_row_size (He.glo_ok X G (c0.fact 29 (f := .glo "item_size") rfl)) F_item_size.kp b_item_size
    have c_joined : Can P w K mg base CX0 "joined" ["row"] 4 (spJoined (He.ga K "Field") (He.ga K "Mark") (He.ga K "Maybe") (He.ga K "Kind") (He.ga K "Net") HB) := ⟨_, e_joined, ok_joined F_joined W N cMark, (He.glo_ok X G (c0.fact 31 (f := .glo "joined") rfl)), F_joined.kp, b_joined⟩
    have c_has_own_field : Can P w K mg base CX0 "has_own_field" ["row"] 1 (spHasOwn (He.ga K "Field") (He.ga K "Mark") (He.ga K "Maybe") (He.ga K "Kind") (He.ga K "Net") HB) := ⟨_, e_has_own_field, ok_own_f F_has_own_field W N, (He.glo_ok X G (c0.fact 26 (f := .glo "has_own_field") rfl)), F_has_own_field.kp, b_has_own_field⟩
    have c_depth_around : Can P w K mg base CX0 "depth_around" ["parts"] 3 (spDepth (He.ga K "Field") (He.ga K "Mark") (He.ga K "Maybe") (He.ga K "Kind") (He.ga K "Net") HB 3) := ⟨_, e_depth_around, ok_depth F_depth_around W N (He.glo_ok X G (c0.fact 28 (f := .glo "depth_around") rfl)) F_depth_around.kp b_depth_around 3, (He.glo_ok X G (c0.fact 28 (f := .glo "depth_around") rfl)), F_depth_around.kp, b_depth_around⟩
    have c_row_size : Can P w K mg base CX0 "row_size" ["row"] 6 (spRsz (He.ga K "Field") (He.ga K "Mark") (He.ga K "Maybe") (He.ga K "Kind") (He.ga K "Net") HB 3) := ⟨_, e_row_size, (sz 3).1, (He.glo_ok X G (c0.fact 30 (f := .glo "row_size") rfl)), F_row_size.kp, b_row_size⟩
    exact ⟨_, e_Maybe_init_, (He.mkr_ok (c0.fact 96 (f := .mkr "Maybe") rfl)), (He.glo_ok X G (c0.fact 94 (f := .glo "Maybe") rfl)), b_Maybe_init_, ok_y_init F_Maybe_init_ W N c_is_row c_is_item c_has_own_field c_depth_around c_row_size c_joined⟩
  have cForm : ∀ HB : Hp, CanForm P w K mg base (He.ga K "Field") (He.ga K "Mark") (He.ga K "Maybe") (He.ga K "Kind") (He.ga K "Net") (He.ga K "Form") HB := fun HB => by
    have c_is_item : Can P w K mg base CX0 "is_item" ["thing"] 1 (spItem (He.ga K "Field") (He.ga K "Mark") (He.ga K "Maybe") (He.ga K "Kind") (He.ga K "Net") HB) := ⟨_, e_is_item, ok_is_item F_is_item W N, (He.glo_ok X G (c0.fact 25 (f := .glo "is_item") rfl)), F_is_item.kp, b_is_item⟩
    have sz := ok_sizes (P := P) (w := w) (base := base) (HB := HB) F_row_size F_item_size W N (He.glo_ok X G (c0.fact 30 (f := .glo "row_size") rfl)) F_row_size.kp b_row_size (He.glo_ok X G (c0.fact 29 (f := .glo "item_size") rfl)) F_item_size.kp b_item_size
    have c_joined : Can P w K mg base CX0 "joined" ["row"] 4 (spJoined (He.ga K "Field") (He.ga K "Mark") (He.ga K "Maybe") (He.ga K "Kind") (He.ga K "Net") HB) := ⟨_, e_joined, ok_joined F_joined W N cMark, (He.glo_ok X G (c0.fact 31 (f := .glo "joined") rfl)), F_joined.kp, b_joined⟩
    have c_row_size : Can P w K mg base CX0 "row_size" ["row"] 8 (spRsz (He.ga K "Field") (He.ga K "Mark") (He.ga K "Maybe") (He.ga K "Kind") (He.ga K "Net") HB 4) := ⟨_, e_row_size, (sz 4).1, (He.glo_ok X G (c0.fact 30 (f := .glo "row_size") rfl)), F_row_size.kp, b_row_size⟩
    have c_item_size : Can P w K mg base CX0 "item_size" ["item"] 1 (spIsz (He.ga K "Field") (He.ga K "Mark") (He.ga K "Maybe") (He.ga K "Kind") (He.ga K "Net") HB 0) := ⟨_, e_item_size, (sz 0).2, (He.glo_ok X G (c0.fact 29 (f := .glo "item_size") rfl)), F_item_size.kp, b_item_size⟩
    have c_fields_in : Can P w K mg base CX0 "fields_in" ["row"] 4 (spFin (He.ga K "Field") (He.ga K "Mark") (He.ga K "Maybe") (He.ga K "Kind") (He.ga K "Net") HB 4) := ⟨_, e_fields_in, ok_fin F_fields_in W N (He.glo_ok X G (c0.fact 27 (f := .glo "fields_in") rfl)) F_fields_in.kp b_fields_in 4, (He.glo_ok X G (c0.fact 27 (f := .glo "fields_in") rfl)), F_fields_in.kp, b_fields_in⟩
    have c_is_item_row : Can P w K mg base CX0 "is_item_row" ["thing"] 2 (spIir (He.ga K "Field") (He.ga K "Mark") (He.ga K "Maybe") (He.ga K "Kind") (He.ga K "Net") HB) := ⟨_, e_is_item_row, ok_iir F_is_item_row N c_is_row c_is_item, (He.glo_ok X G (c0.fact 33 (f := .glo "is_item_row") rfl)), F_is_item_row.kp, b_is_item_row⟩
    have c_lines_size : Can P w K mg base CX0 "lines_size" ["lines"] 9 (spLsz (He.ga K "Field") (He.ga K "Mark") (He.ga K "Maybe") (He.ga K "Kind") (He.ga K "Net") HB) := ⟨_, e_lines_size, ok_lsz F_lines_size N c_row_size, (He.glo_ok X G (c0.fact 34 (f := .glo "lines_size") rfl)), F_lines_size.kp, b_lines_size⟩
    have c_check_lines : Can P w K mg base CX0 "check_lines" ["lines"] 10 (spCheck (He.ga K "Field") (He.ga K "Mark") (He.ga K "Maybe") (He.ga K "Kind") (He.ga K "Net") HB) := ⟨_, e_check_lines, ok_check F_check_lines W N c_is_row c_is_item_row c_fields_in c_lines_size, (He.glo_ok X G (c0.fact 32 (f := .glo "check_lines") rfl)), F_check_lines.kp, b_check_lines⟩
    have nt := ok_nets (P := P) (w := w) (base := base) (HB := HB) F_row_net F_item_net W N c_text_net c_or_nothing c_chained (He.glo_ok X G (c0.fact 36 (f := .glo "row_net") rfl)) F_row_net.kp b_row_net (He.glo_ok X G (c0.fact 37 (f := .glo "item_net") rfl)) F_item_net.kp b_item_net
    have c_row_net : Can P w K mg base CX0 "row_net" ["row"] 12 (spRnet (He.ga K "Field") (He.ga K "Mark") (He.ga K "Maybe") (He.ga K "Kind") (He.ga K "Net") HB 4) := ⟨_, e_row_net, (nt 4).1, (He.glo_ok X G (c0.fact 36 (f := .glo "row_net") rfl)), F_row_net.kp, b_row_net⟩
    have c_under_each_other : Can P w K mg base CX0 "under_each_other" ["nets"] 5 (spUe (He.ga K "Net") HB) := ⟨_, e_under_each_other, ok_ue F_under_each_other c_line_added, (He.glo_ok X G (c0.fact 13 (f := .glo "under_each_other") rfl)), F_under_each_other.kp, b_under_each_other⟩
    have c_lines_net : Can P w K mg base CX0 "lines_net" ["lines"] 13 (spLnet (He.ga K "Field") (He.ga K "Mark") (He.ga K "Maybe") (He.ga K "Kind") (He.ga K "Net") HB) := ⟨_, e_lines_net, ok_lnet F_lines_net c_row_net c_under_each_other, (He.glo_ok X G (c0.fact 35 (f := .glo "lines_net") rfl)), F_lines_net.kp, b_lines_net⟩
    have c_row_holders : Can P w K mg base CX0 "row_holders" ["row"] 5 (spRh (He.ga K "Field") (He.ga K "Mark") (He.ga K "Maybe") (He.ga K "Kind") (He.ga K "Net") HB 4) := ⟨_, e_row_holders, ok_rh F_row_holders W N c_item_size (He.glo_ok X G (c0.fact 39 (f := .glo "row_holders") rfl)) F_row_holders.kp b_row_holders 4, (He.glo_ok X G (c0.fact 39 (f := .glo "row_holders") rfl)), F_row_holders.kp, b_row_holders⟩
    have c_lines_holders : Can P w K mg base CX0 "lines_holders" ["lines"] 6 (spLh (He.ga K "Field") (He.ga K "Mark") (He.ga K "Maybe") (He.ga K "Kind") (He.ga K "Net") HB) := ⟨_, e_lines_holders, ok_lh F_lines_holders c_row_holders, (He.glo_ok X G (c0.fact 38 (f := .glo "lines_holders") rfl)), F_lines_holders.kp, b_lines_holders⟩
    exact ⟨_, e_Form_init_, (He.mkr_ok (c0.fact 102 (f := .mkr "Form") rfl)), (He.glo_ok X G (c0.fact 100 (f := .glo "Form") rfl)), b_Form_init_, ok_o_init F_Form_init_ W N c_check_lines c_joined c_fields_in c_lines_net c_lines_holders c_owner_sets⟩
  have c_l_bag : Can P w K mg base CX0 "_law_bag" ["_law_script"] 1 (spBag K) := ⟨_, e_l_bag, ok_bag F_l_bag N.list, (He.glo_ok X G (c0.fact 41 (f := .glo "_law_bag") rfl)), F_l_bag.kp, b_l_bag⟩
  have c_l_draw : Can P w K mg base CX0 "_law_draw" ["_law_bag_here", "_law_limit"] 1 spDraw := ⟨_, e_l_draw, ok_draw F_l_draw N.len N.int, (He.glo_ok X G (c0.fact 42 (f := .glo "_law_draw") rfl)), F_l_draw.kp, b_l_draw⟩
  have c_l_alphabet : Can P w K mg base CX0 "_law_alphabet" [] 1 spAlpha := ⟨_, e_l_alphabet, ok_alpha F_l_alphabet, (He.glo_ok X G (c0.fact 43 (f := .glo "_law_alphabet") rfl)), F_l_alphabet.kp, b_l_alphabet⟩
  have c_l_letters : Can P w K mg base CX0 "_law_letters" ["_law_bag_here", "_law_many"] 2 spLetters := by
    obtain ⟨fA, fdA, GA, gA, kA, bA⟩ := c_l_alphabet
    obtain ⟨fD, fdD, GD, gD, kD, bD⟩ := c_l_draw
    exact ⟨_, e_l_letters, ok_letters F_l_letters N.list N.len N.range GA gA kA bA GD gD kD bD, (He.glo_ok X G (c0.fact 44 (f := .glo "_law_letters") rfl)), F_l_letters.kp, b_l_letters⟩
  have c_l_signs : Can P w K mg base CX0 "_law_signs" ["_law_bag_here", "_law_letters_here"] 2 spSigns2 := ⟨_, e_l_signs, ok_signs2 F_l_signs N c_l_draw, (He.glo_ok X G (c0.fact 45 (f := .glo "_law_signs") rfl)), F_l_signs.kp, b_l_signs⟩
  have c_l_run : Can P w K mg base CX0 "_law_run" ["_law_bag_here", "_law_letters_here"] 3 spRunD := ⟨_, e_l_run, ok_runD F_l_run N c_l_signs c_l_draw, (He.glo_ok X G (c0.fact 46 (f := .glo "_law_run") rfl)), F_l_run.kp, b_l_run⟩
  have c_l_rows : Can P w K mg base CX0 "_law_rows" ["_law_bag_here", "_law_letters_here"] 4 spRowsD := ⟨_, e_l_rows, ok_rowsD F_l_rows N c_l_run c_l_draw, (He.glo_ok X G (c0.fact 47 (f := .glo "_law_rows") rfl)), F_l_rows.kp, b_l_rows⟩
  have c_l_kind : Can P w K mg base CX0 "_law_kind" ["_law_rows_here"] 9 (spKindD (He.ga K "Kind") (He.ga K "Net")) := ⟨_, e_l_kind, ok_kindD F_l_kind O, (He.glo_ok X G (c0.fact 51 (f := .glo "_law_kind") rfl)), F_l_kind.kp, b_l_kind⟩
  have c_l_names : Can P w K mg base CX0 "_law_names" ["_law_bag_here", "_law_many"] 2 spNames := ⟨_, e_l_names, ok_names F_l_names N c_l_draw, (He.glo_ok X G (c0.fact 48 (f := .glo "_law_names") rfl)), F_l_names.kp, b_l_names⟩
  have c_l_row : Can P w K mg base CX0 "_law_row" ["_law_bag_here", "_law_letters_here", "_law_names_here", "_law_deep"] 8 (spRowR 3) := ⟨_, e_l_row, ok_rowR F_l_row N c_l_draw c_l_rows (He.glo_ok X G (c0.fact 49 (f := .glo "_law_row") rfl)) F_l_row.kp b_l_row 3, (He.glo_ok X G (c0.fact 49 (f := .glo "_law_row") rfl)), F_l_row.kp, b_l_row⟩
  have c_l_lines : Can P w K mg base CX0 "_law_lines" ["_law_bag_here", "_law_many"] 9 spLinesR := ⟨_, e_l_lines, ok_linesR F_l_lines N c_l_draw c_l_letters c_l_names c_l_row, (He.glo_ok X G (c0.fact 50 (f := .glo "_law_lines") rfl)), F_l_lines.kp, b_l_lines⟩
  have c_l_make : Can P w K mg base CX0 "_law_make" ["_law_lines_here"] 16 (spMakeX (He.ga K "Field") (He.ga K "Mark") (He.ga K "Maybe") (He.ga K "Kind") (He.ga K "Net") (He.ga K "Form")) := ⟨_, e_l_make, FnOk.any fun HB => by
    have c_l_items : Can P w K mg base CX0 "_law_items" ["_law_row_here"] 13 (spItems (He.ga K "Field") (He.ga K "Mark") (He.ga K "Maybe") (He.ga K "Kind") (He.ga K "Net") HB 4) := ⟨_, e_l_items, ok_items F_l_items W N cField cMark (cMaybe HB) c_l_kind (He.glo_ok X G (c0.fact 52 (f := .glo "_law_items") rfl)) F_l_items.kp b_l_items 4, (He.glo_ok X G (c0.fact 52 (f := .glo "_law_items") rfl)), F_l_items.kp, b_l_items⟩
    exact ok_make F_l_make W (cForm HB) c_l_items, (He.glo_ok X G (c0.fact 53 (f := .glo "_law_make") rfl)), F_l_make.kp, b_l_make⟩
  have c_l_kept : Can P w K mg base CX0 "_law_kept" ["_law_rows_here"] 1 spKept := ⟨_, e_l_kept, ok_kept F_l_kept, (He.glo_ok X G (c0.fact 54 (f := .glo "_law_kept") rfl)), F_l_kept.kp, b_l_kept⟩
  have c_l_kind_places : Can P w K mg base CX0 "_law_kind_places" ["_law_rows_here"] 2 spKp := ⟨_, e_l_kind_places, ok_kp F_l_kind_places N c_l_kept, (He.glo_ok X G (c0.fact 55 (f := .glo "_law_kind_places") rfl)), F_l_kind_places.kp, b_l_kind_places⟩
  have c_l_row_places : Can P w K mg base CX0 "_law_row_places" ["_law_row_here"] 6 (spRp 4) := ⟨_, e_l_row_places, ok_rp F_l_row_places N c_l_kind_places (He.glo_ok X G (c0.fact 56 (f := .glo "_law_row_places") rfl)) F_l_row_places.kp b_l_row_places 4, (He.glo_ok X G (c0.fact 56 (f := .glo "_law_row_places") rfl)), F_l_row_places.kp, b_l_row_places⟩
  have c_l_is_places : Can P w K mg base CX0 "_law_is_places" ["_law_told"] 1 spIsP := ⟨_, e_l_is_places, ok_isp F_l_is_places N, (He.glo_ok X G (c0.fact 57 (f := .glo "_law_is_places") rfl)), F_l_is_places.kp, b_l_is_places⟩
  have Z : Parts P w K mg base (He.ga K "Signs") (He.ga K "Field") (He.ga K "Mark") (He.ga K "Maybe") (He.ga K "Kind") (He.ga K "Net") (He.ga K "Form") := { T := W, self := sfO, bag := c_l_bag, draw := c_l_draw, lines := c_l_lines, make := c_l_make, rp := c_l_row_places, isp := c_l_is_places, places := ⟨_, e_Formplaces, mOp, FnOk.any fun HB => ok_places F_Formplaces W N gz, b_Formplaces⟩, add := ⟨_, e_Form_add_, ⟨mOa.at_, mOa.fn⟩, FnOk.any fun HB => ok_o_add F_Form_add_ W (cForm HB), b_Form_add_⟩, eq := ⟨_, e_Form_eq_, ⟨mOe.at_, mOe.fn⟩, FnOk.imp (FnOk.any fun HB => by
      have gK := ok_k_eq (P := P) (w := w) (base := base) F_Kind_eq_ W N
      have gF := ok_f_eq (P := P) (w := w) (base := base) (HB := HB) F_Field_eq_ W N ⟨mKe.at_, mKe.fn⟩ gK b_Kind_eq_
      have gM := ok_m_eq (P := P) (w := w) (base := base) (HB := HB) F_Mark_eq_ W N
      have gY := ok_y_eq (P := P) (w := w) (base := base) (HB := HB) F_Maybe_eq_ W N ⟨mFe.at_, mFe.fn⟩ gF b_Field_eq_ ⟨mMe.at_, mMe.fn⟩ gM b_Mark_eq_ ⟨mYe.at_, mYe.fn⟩ b_Maybe_eq_ 3
      exact ok_o_eq F_Form_eq_ W N ⟨mFe.at_, mFe.fn⟩ gF b_Field_eq_ ⟨mMe.at_, mMe.fn⟩ gM b_Mark_eq_ ⟨mYe.at_, mYe.fn⟩ gY b_Maybe_eq_) (fun vs H Q E h => by
      obtain ⟨a, b, e, ⟨HB, r⟩, q⟩ := h
      exact ⟨HB, a, b, e, r, q⟩), b_Form_eq_⟩ }
  exact ok_law F_law N Z
end K14

open PySem PySem.W PySem.Calls PyProof.Rows
set_option maxRecDepth 100000 in
set_option maxHeartbeats 0 in
theorem PySem.Challenge.cw_townlines_k14_places_holds : PySem.Challenge.rw_townlines_k14_places.Holds := by
  w_on; o_law
  refine HandSHeadRun.head_any (r := OpenLaw.row PySem.Challenge.rw_townlines_k14_places) (q := view (OpenLaw.row PySem.Challenge.rw_townlines_k14_places).prog [121]) (H := K14.hk) (ob := K14.ob) (M := 60000) (loose := K14.loose) (d := HandSHeadRun.topDef (OpenLaw.row PySem.Challenge.rw_townlines_k14_places).prog 121) (kwd := []) K14.ob_eq
    (by kernel_rfl) (fun s => by kernel_rfl) K14.run (by kernel_rfl) (by kernel_rfl) (by kernel_rfl) (by rfl) (by first | assumption | decide +kernel) (by decide +kernel) ⟨rfl, rfl, rfl, rfl, rfl, by decide +kernel⟩ ?hw ?hc
  case hw => w_witness2
  case hc =>
    refine L2.walk_ofE (l := PySem.Challenge.rw_townlines_k14_places) (n := 63) (k := 17) (x := "_law_script") (CX := L2.CX0) rfl (by decide) (by kernel_rfl) ⟨rfl, by decide, by decide⟩ ?F (fun _ _ _ _ z => z)
    intro w mg fa h Y G hmg0
    obtain ⟨K, KX, c⟩ := Y
    have hmg : mg ("law" : PySem.Str) = some (.ref fa) := by
      have e : (HandSHeadRun.topDef (OpenLaw.row PySem.Challenge.rw_townlines_k14_places).prog 121).name = ("law" : PySem.Str) := by kernel_rfl
      rw [← e]
      exact hmg0
    obtain ⟨fd, hb, hF⟩ := K14.facts (P := (PySem.Challenge.rw_townlines_k14_places).prog) (w := w) KX G hmg c
    exact ⟨K, fd, K14.spLaw K, KX, hb, fun H a ns hl _ hS => ⟨a, ns, rfl, hS, hl, fun _ => rfl⟩, hF⟩

