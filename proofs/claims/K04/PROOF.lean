import PyProof.Rows.All
import Wide.All
import OpenK.AllK
import Wide.FinOn
import HandS.ForMost
import HandS.ForExc
import HandS.ExcOwn
import HandS.ExcCtx
import HandS.Defaults
import HandS.HeadHook1
import HandS.HeadHook2
import HandS.HeadHook3
import HandS.HeadHook4
import HandS.IsInst
import KE.KOpsOwn
import KE.KxMul
import KE.KIsAll
import KE.KTryMore
import HandS.ExcInit
import HandS.ExcIs
import HandS.HotCalls
import HandS.ExcField
import KE.KExcIs
import KE.KStateDown
import HandS.Head0
import HandS.Head1
import HandS.Head2
import HandS.HeadEnd
import PyProof.StrBlock2
import HandS.Wide
import HandS.Codes
import HandS.Walk
import HandS.WideBits
import HandS.Text
import HandS.Records
import HandS.Comp
import HandS.Dict
import HandS.Iter
import HandS.DictComp
import KE.KDictKeyed
import KE.KeyNested
import KE.KDictSum
import KE.KDictCopyH
import HandS.RevTup
import PyProof.MeetsIn
import PyProof.Rows.StrBool
import KE.DataEq
import HandS.Deep
import HandS.TupLe
import PySem.Challenge.RW_townlines_k04_kind_operators
set_option Elab.async false
set_option linter.all false
set_option maxRecDepth 100000
set_option maxHeartbeats 8000000
set_option autoImplicit false
set_option maxErrors 4
/-! Static methods of own classes: what the head reads of them, C.m(..). -/
namespace Tl
open PySem PySem.Spec PyProof.Rows L2
/-- C.m is a staticmethod at p over the def at f -/
structure Stat (K : PySem.W.Frag) (C : Addr) (m : Str) (f : Addr) : Prop where
  ga : PySem.W.specialIn K (.ref C) "__getattribute__" = some (some (.builtin "type.__getattribute__"))
  ty : PySem.W.typeIn K (.ref C) = some (.type "type")
  rd : PySem.W.readsIn K C (.type "type") = true
  fd : ∃ (p : Addr) (rest : List Value), PySem.W.findCls K (.ref C) (.type "type") m = some (.get (.builtin "staticmethod.__get__") (.ref p) .none (.ref C)) ∧ PySem.W.recIn K p "staticmethod" = some (.ref f :: rest)
  kp : PySem.W.keepIn K (.ref f) = true
def statP : Option PySem.W.CFound → Option Addr
  | some (.get (.builtin g) (.ref p) .none _) => if g = "staticmethod.__get__" then some p else none
  | _ => none
/-- where the staticmethod, its def stand -/
def pAd (K : PySem.W.Frag) (C : Addr) (m : Str) : Addr := (statP (PySem.W.findCls K (.ref C) (.type "type") m)).getD 0
def recF : Option (List Value) → Option Addr
  | some (.ref f :: _) => some f
  | _ => none
def sAd (K : PySem.W.Frag) (C : Addr) (m : Str) : Addr := (recF (PySem.W.recIn K (pAd K C m) "staticmethod")).getD 0
def foundB (C : Addr) : Option PySem.W.CFound → Bool
  | some (.get (.builtin g) (.ref _) .none (.ref D)) => decide (g = "staticmethod.__get__") && decide (D = C)
  | _ => false
def recB : Option (List Value) → Bool
  | some (.ref _ :: _) => true
  | _ => false
def statB (K : PySem.W.Frag) (C : Addr) (m : Str) : Bool := He.eqO (PySem.W.specialIn K (.ref C) "__getattribute__") (some (some (.builtin "type.__getattribute__"))) && (decide (PySem.W.typeIn K (.ref C) = some (.type "type")) && (PySem.W.readsIn K C (.type "type") &&
  (foundB C (PySem.W.findCls K (.ref C) (.type "type") m) && (recB (PySem.W.recIn K (pAd K C m) "staticmethod") && PySem.W.keepIn K (.ref (sAd K C m))))))
theorem foundB_ok {C : Addr} {r : Option PySem.W.CFound} (h : foundB C r = true) : r = some (.get (.builtin "staticmethod.__get__") (.ref ((statP r).getD 0)) .none (.ref C)) := by
  unfold foundB at h
  split at h
  · rename_i g p D
    obtain ⟨h1, h2⟩ := He.ba h
    have e1 := of_decide_eq_true h1
    have e2 := of_decide_eq_true h2
    rw [e1, e2]
    show _ = some (PySem.W.CFound.get _ (.ref ((if ("staticmethod.__get__" : String) = "staticmethod.__get__" then some p else none).getD 0)) _ _)
    rw [if_pos rfl]
    rfl
  · cases h
theorem recB_ok {r : Option (List Value)} (h : recB r = true) : ∃ rest, r = some (.ref ((recF r).getD 0) :: rest) := by
  unfold recB at h
  split at h
  · exact ⟨_, rfl⟩
  · cases h
theorem statB_ok {K : PySem.W.Frag} {C : Addr} {m : Str} (h : statB K C m = true) : Stat K C m (sAd K C m) := by
  obtain ⟨a1, h⟩ := He.ba h
  obtain ⟨a2, h⟩ := He.ba h
  obtain ⟨a3, h⟩ := He.ba h
  obtain ⟨a4, h⟩ := He.ba h
  obtain ⟨a5, a6⟩ := He.ba h
  obtain ⟨rest, e⟩ := recB_ok a5
  exact ⟨He.eqO_ok a1, of_decide_eq_true a2, a3, ⟨pAd K C m, rest, foundB_ok a4, e⟩, a6⟩
/-! ### the Hook: as the library's by one more list of defs, looked for by an address of one's own -/
structure StD where
  cls : Str
  meth : Str
  d : He.DefD
def StD.ad (K : PySem.W.Frag) (x : StD) : Addr := sAd K (He.ga K x.cls) x.meth
def stW (K : PySem.W.Frag) (x : StD) : He.FnW := match K.lookup (x.ad K) with
  | some ⟨_, _, .func fd, _⟩ => some (fd.name, fd.qualname, fd.params, fd.body, fd.scope, fd.globals, fd.closure, fd.builtins)
  | _ => none
def StD.ok (K : PySem.W.Frag) (x : StD) : Bool := statB K (He.ga K x.cls) x.meth && (match K.lookup (x.ad K) with
  | some ⟨_, _, .func fd, _⟩ => PySem.W.codeIn K fd.code x.d.qual && (He.dflB K fd.defaults (x.d.dvs K) && He.kwdB K fd.kwdefaults (x.d.kws K))
  | _ => false)
theorem StD.funD {K : PySem.W.Frag} {x : StD} (e : stW K x = x.d.val) (c : x.ok K = true) : Stat K (He.ga K x.cls) x.meth (x.ad K) ∧ ∃ fd, FunD K x.d.name x.d.qual x.d.params x.d.body x.d.scope (x.d.dvs K) (x.d.kws K) (x.ad K) fd := by
  obtain ⟨st, c⟩ := He.ba c
  have S := statB_ok st
  refine ⟨S, ?_⟩
  unfold stW at e
  cases look : K.lookup (x.ad K) with
  | none =>
    rw [look] at c
    cases c
  | some ob =>
    obtain ⟨oc, od, dt, sl⟩ := ob
    rw [look] at c e
    cases dt with
    | func fd =>
      obtain ⟨f1, f2, f3, f4, f5, f6, f7, f8, f9, f10, f11, f12, f13, f14, f15⟩ := fd
      have same : (some (f1, f2, f3, f4, f5, f6, f7, f15) : He.FnW) = some (x.d.name, x.d.qual, x.d.params, .stmts x.d.body, x.d.scope, mainGlobals, [], builtinsNs) := e
      simp only [Option.some.injEq, Prod.mk.injEq] at same
      obtain ⟨i1, i2, i3, i4, i5, i6, i7, i8⟩ := same
      subst i1 i2 i3 i4 i5 i6 i7 i8
      have all : (PySem.W.codeIn K f13 x.d.qual && (He.dflB K f8 (x.d.dvs K) && He.kwdB K f9 (x.d.kws K))) = true := c
      obtain ⟨j1, all⟩ := He.ba all
      obtain ⟨j2, j3⟩ := He.ba all
      exact ⟨_, ⟨oc, od, f8, f9, f10, f11, f12, f13, f14, sl, rfl, look, j1, He.dflB_ok j2, He.kwdB_ok j3⟩, S.kp⟩
    | _ => cases c
abbrev AlS : Type := (He.AlD × Bool) × List He.FnW
def obsS (n : Nat) (fa : List He.Fa) (fn : List He.DefD) (sd : List StD) (ex : PySem.W.Frag → Bool) (g : Addr → Option Obj) : AlS :=
  ((He.obsD fa fn (He.frT g (cStatics :: He.asD g n)), ex (He.frT g (cStatics :: He.asD g n)) && sd.all fun x => x.ok (He.frT g (cStatics :: He.asD g n))), sd.map fun x => stW (He.frT g (cStatics :: He.asD g n)) x)
def valS (fn : List He.DefD) (sd : List StD) : AlS := ((He.valD fn, true), sd.map fun x => x.d.val)
structure SaysS (fa : List He.Fa) (fn : List He.DefD) (sd : List StD) (ex : PySem.W.Frag → Bool) (K : PySem.W.Frag) : Prop where
  d : He.SaysD fa fn K
  more : ex K = true
  st : ∀ x ∈ sd, Stat K (He.ga K x.cls) x.meth (x.ad K) ∧ ∃ fd, FunD K x.d.name x.d.qual x.d.params x.d.body x.d.scope (x.d.dvs K) (x.d.kws K) (x.ad K) fd
theorem saysS_of {fa : List He.Fa} {fn : List He.DefD} {sd : List StD} {ex : PySem.W.Frag → Bool} {K : PySem.W.Frag} (e : (((He.obsD fa fn K, ex K && sd.all fun x => x.ok K), sd.map fun x => stW K x) : AlS) = valS fn sd) : SaysS fa fn sd ex K := by
  have e1 : He.obsD fa fn K = He.valD fn := congrArg (fun z : AlS => z.1.1) e
  have e2 : (ex K && sd.all fun x => x.ok K) = true := congrArg (fun z : AlS => z.1.2) e
  have e3 : (sd.map fun x => stW K x) = sd.map fun x => x.d.val := congrArg (fun z : AlS => z.2) e
  obtain ⟨a, b⟩ := He.ba e2
  refine ⟨e1, a, fun x hx => ?_⟩
  obtain ⟨i, hi, rfl⟩ := List.mem_iff_getElem.mp hx
  have e4 : (sd.map fun x => stW K x)[i]? = (sd.map fun x => x.d.val)[i]? := by rw [e3]
  rw [List.getElem?_map, List.getElem?_map, List.getElem?_eq_getElem hi] at e4
  exact StD.funD (Option.some.inj e4) (List.all_eq_true.mp b _ hx)
def hookS (n : Nat) (fa : List He.Fa) (fn : List He.DefD) (sd : List StD) (ex : PySem.W.Frag → Bool) : PySem.W.Hook where
  α := AlS
  obs := fun s => obsS n fa fn sd ex s.heap.get?
  val := fun _ => valS fn sd
  says := fun _ h => ∃ K : PySem.W.Frag, K.In h ∧ SaysS fa fn sd ex K
  of := fun _ _ e => ⟨_, He.frT_in, saysS_of e⟩
  keeps := fun _ _ _ ⟨K, hK, c⟩ k => ⟨K, PySem.W.Frag.In.keeps hK k, c⟩
theorem obsS_eq {n : Nat} {fa : List He.Fa} {fn : List He.DefD} {sd : List StD} {ex : PySem.W.Frag → Bool} {g : Addr → Option Obj} {s : Shared} (h : ∀ a, g a = s.heap.get? a) : obsS n fa fn sd ex g = (hookS n fa fn sd ex).obs s := by
  have e : g = s.heap.get? := funext h
  rw [e] <;> rfl
/-! ### C.m(..) -/
section
variable {X : Cx} {CX : CXT} {k : Nat} {f C : Addr} {fd : FuncData} {ps : List Str} {sp : Sp} {ds : List Value} {dvs : List V} {E : L2.St → XK} {x m : Str} {p1 p2 pos : Pos} {e : Expr} {es : List Expr} {t : TA}
def tStat (sp : Sp) (dvs : List V) (E : L2.St → XK) (t : TA) : TE := fun σ H Q => t σ H fun vs H1 => sp (vs ++ dvs) H1 Q (E σ)
theorem pe_stat {pl : Sem Bool} (S : Stat X.K C m f) (F : FnOk X.prog X.w X.K X.mg X.base CX k f fd ps sp) (hr : Room k X.A) (hg : Gl X x) (hm : X.mg x = some (.ref C)) (hb : Binds X.K fd ps ds) (hd : Vals dvs ds) (hx : ∀ σ, PassesAt CX X σ (E σ)) (ha : PA X (e :: es) t)
    (hdb : (x == ("__debug__" : Str)) = false := by decide) (hst : starEach (e :: es) X.env = (false, eval e X.env) :: starEach es X.env := by rfl) (hpl : (backTo pos (starEach es X.env)).any (·.1) = false := by rfl)
    (ht : eval (.Call (.Attribute (.Name x p1) m p2) (e :: es) [] pos) X.env = (do
      let ov ← eval (.Name x p1) X.env
      standAt p2.atName
      let (f, first) ← holding [ov] (getMethod ov m pl)
      callWith pos f first (backTo pos (starEach (e :: es) X.env)) (backToKw pos (keywordEach [] X.env))) := by rfl) :
    PE X (.Call (.Attribute (.Name x p1) m p2) (e :: es) [] pos) (tStat sp dvs E t) := by
  refine ⟨fun pins s σ H Q I h => PySem.W.methodCall_KW (pl := pl) (ld_glob I hg hm ?_ hdb) ht⟩
  obtain ⟨mm, fr⟩ := I.fr
  obtain ⟨p, rest, found, rc⟩ := S.fd
  refine PySem.W.method_of_cls fr I.ok.mod.kin S.ga (PySem.W.cls_sm fr I.ok.mod.kin S.ty S.rd found rc rfl ?_)
  refine PySem.W.callWith_K (first := []) (h₀ := X.base) I.ok.mod.kin S.kp (thn (ha.run pos pins _ σ H _ (I.tok _) h) fun us s1 ⟨vs, H1, I1, r, z⟩ => ⟨I1.kIn, ?_⟩) hst hpl
  have n : (us ++ ds).length = ps.length := by
    rw [← F.len _ _ _ _ z, List.length_append, List.length_append, r.length, hd.length]
  have b := hb s1 us I1.kIn n
  refine wpAny_call (codeAny_mono (F.run X.A X.stack s1 H1 ⟨us, []⟩ (us ++ ds) (vs ++ dvs) Q (E σ) hr I1.env0 b (r.append hd) z) fun res s2 y => ?_)
  cases res with
  | error er => exact hx σ pins H1 s1 er s2 I1 y
  | ok fl =>
    cases fl with
    | ret u => exact I1.after y
    | next => exact y.elim
    | brk => exact y.elim
    | cont => exact y.elim
end
end Tl

/-! Operators that an own class defines, as rules of the hand layer: a op b, str op a, ~a, x in a, len(a), bool(a), a op= b, a == b. -/
namespace Tl
open PySem PySem.Spec PyProof.Rows L2
theorem back_ok {X : Cx} {pins : List (Addr × Obj)} {σ : L2.St} {Q : VK} {u : Value} {s : Shared} (h : EP X pins σ Q u s) : PySem.W.CmpBack (EP X pins σ Q) u s := by
  cases u with
  | notImplemented =>
    obtain ⟨v, H', _, rv, _⟩ := h
    cases v <;> first | (exact nomatch rv) | (obtain ⟨_, e⟩ := rv; exact nomatch e)
  | _ => exact h
theorem relRef (a : Addr) : RelV (.ref a) (.ref a) := rfl
theorem relStr (z : Str) (t : Tok) : RelV (.str z) (.str z t) := ⟨t, rfl⟩
/-- the class at C, a method m of it at f, m an operator's name -/
structure OpC (K : PySem.W.Frag) (C : Addr) (m : Str) (f : Addr) : Prop where
  at_ : PySem.W.findIn K (.ref C) m = some (some (.ref f))
  fn : PySem.W.isFn K (.ref f) = true
section
variable {X : Cx} {CX : CXT} {k : Nat} {C f : Addr} {fd : FuncData} {ps : List Str} {sp : Sp} {E : XK}
theorem inst_of {pins : List (Addr × Obj)} {σ : L2.St} {H : Hp} {s : Shared} {a dx : Addr} {fs : List (Str × V)} (I : Inv X pins σ H s) (e : H a = some (.ins C dx fs)) : ∃ ox od, PySem.W.InstAt s.heap a ox C (some od) := by
  obtain ⟨mA, O, _, _, _, _⟩ := ins_get I.hok e
  obtain ⟨od, J, _⟩ := O.look
  exact ⟨_, od, J⟩
theorem run_op {pins : List (Addr × Obj)} {σ : L2.St} {H : Hp} {s : Shared} {Q : VK} {vs : List V} {us : List Value} (F : FnOk X.prog X.w X.K X.mg X.base CX k f fd ps sp) (hr : Room k X.A) (hb : Binds X.K fd ps []) (hx : Passes CX X E)
    (I : Inv X pins σ H s) (r : Vals vs us) (h : sp vs H Q E) : wpAny (model X.prog X.w) X.A (call (.ref f) us) (EP X pins σ Q) X.xe s :=
  run_fn (dvs := []) F hr hb .nil hx I r (by rw [List.append_nil]; exact h)
/-- a op b, both instances of C -/
def rBin (C : Addr) (sp : Sp) (E : XK) : R2 := fun x y H Q => ∃ a dx fs b dy gs, x = .ref a ∧ y = .ref b ∧ H a = some (.ins C dx fs) ∧ H b = some (.ins C dy gs) ∧ sp [.ref a, .ref b] H Q E
theorem op_bin {op : Operator} (hc : PySem.W.selfFirst X.K C = true) (M : OpC X.K C (PySem.dunder op.info.2) f) (F : FnOk X.prog X.w X.K X.mg X.base CX k f fd ps sp) (hr : Room k X.A) (hb : Binds X.K fd ps []) (hx : Passes CX X E) :
    OpR X (binaryOp op) (rBin C sp E) := by
  intro pins s σ H x y v u Q I rx ry h
  obtain ⟨a, dx, fs, b, dy, gs, rfl, rfl, ha, hb2, q⟩ := h
  cases rx
  cases ry
  obtain ⟨oa, da, Ja⟩ := inst_of I ha
  obtain ⟨ob, db, Jb⟩ := inst_of I hb2
  obtain ⟨mm, Fm⟩ := I.fr
  have one := run_op F hr hb hx I (.cons (relRef _) (.cons (relRef _) .nil)) q
  exact PySem.W.binop_K Fm I.mod.kin Ja Jb.type hc M.at_ M.fn (wpAny_mono one (fun _ _ z => back_ok z) fun _ _ z => z)
/-- a op z, a an instance of C, z a text -/
def rBinS (C : Addr) (sp : Sp) (E : XK) : R2 := fun x y H Q => ∃ a dx fs z, x = .ref a ∧ y = .str z ∧ H a = some (.ins C dx fs) ∧ sp [.ref a, .str z] H Q E
theorem op_binS {op : Operator} {fo ro rc : Option Value} (hc : PySem.W.selfFirst X.K C = true) (M : OpC X.K C (PySem.dunder op.info.2) f) (hR : PySem.W.findIn X.K (.ref C) (dunderR op.info.2) = some rc) (hp : rc = none ∨ ∃ g : Addr, rc = some (.ref g))
    (h1 : PySem.W.findIn X.K (.type "str") (PySem.dunder op.info.2) = some fo) (h2 : PySem.W.findIn X.K (.type "str") (dunderR op.info.2) = some ro) (hsub : PySem.W.subIn X.K (.type "str") (.ref C) = some false)
    (F : FnOk X.prog X.w X.K X.mg X.base CX k f fd ps sp) (hr : Room k X.A) (hb : Binds X.K fd ps []) (hx : Passes CX X E) : OpR X (binaryOp op) (rBinS C sp E) := by
  intro pins s σ H x y v u Q I rx ry h
  obtain ⟨a, dx, fs, z, rfl, rfl, ha, q⟩ := h
  cases rx
  obtain ⟨t, rfl⟩ := ry
  obtain ⟨oa, da, Ja⟩ := inst_of I ha
  obtain ⟨mm, Fm⟩ := I.fr
  have one := run_op F hr hb hx I (.cons (relRef _) (.cons (relStr z t) .nil)) q
  exact PySem.W.ksp_binT Fm I.mod.kin Ja (by rfl) hc M.at_ M.fn hR hp h1 h2 hsub (wpAny_mono one (fun _ _ z => back_ok z) fun _ _ z => z)
/-- ~a -/
def rInv (C : Addr) (sp : Sp) (E : XK) : V → Hp → VK → Prop := fun x H Q => ∃ a dx fs, x = .ref a ∧ H a = some (.ins C dx fs) ∧ sp [.ref a] H Q E
theorem un_own (M : OpC X.K C "__invert__" f) (F : FnOk X.prog X.w X.K X.mg X.base CX k f fd ps sp) (hr : Room k X.A) (hb : Binds X.K fd ps []) (hx : Passes CX X E) : UnR X (unaryOp .Invert) (rInv C sp E) := by
  intro pins s σ H x v Q I rx h
  obtain ⟨a, dx, fs, rfl, ha, q⟩ := h
  cases rx
  obtain ⟨oa, da, Ja⟩ := inst_of I ha
  obtain ⟨mm, Fm⟩ := I.fr
  have one := run_op F hr hb hx I (.cons (relRef _) .nil) q
  exact PySem.W.ksp_inv Fm I.mod.kin Ja M.at_ M.fn one
/-- x in a, the method handing back True or False -/
def rInO (C : Addr) (sp : Sp) (E : XK) (neg : Bool) : R2 := fun x y H Q => ∃ a dx fs, y = .ref a ∧ H a = some (.ins C dx fs) ∧ sp [.ref a, x] H (fun v H' => ∃ b, v = .bl b ∧ Q (.bl (if neg then !b else b)) H') E
theorem op_inO (M : OpC X.K C "__contains__" f) (F : FnOk X.prog X.w X.K X.mg X.base CX k f fd ps sp) (hr : Room k X.A) (hb : Binds X.K fd ps []) (hx : Passes CX X E) : OpR X (compareOp .In) (rInO C sp E false) := by
  intro pins s σ H x y v u Q I rx ry h
  obtain ⟨a, dx, fs, rfl, ha, q⟩ := h
  cases ry
  obtain ⟨oa, da, Ja⟩ := inst_of I ha
  obtain ⟨mm, Fm⟩ := I.fr
  have one := run_op F hr hb hx I (.cons (relRef _) (.cons rx .nil)) q
  refine PySem.W.in_K Fm I.mod.kin Ja M.at_ M.fn (wpAny_mono one (fun r s' z => ?_) fun _ _ z => z)
  obtain ⟨w, H', I', rw', b, rfl, q'⟩ := z
  cases rw'
  exact wpAny_truthy_bool ⟨.bl b, H', I', rfl, q'⟩
theorem op_notInO (M : OpC X.K C "__contains__" f) (F : FnOk X.prog X.w X.K X.mg X.base CX k f fd ps sp) (hr : Room k X.A) (hb : Binds X.K fd ps []) (hx : Passes CX X E) : OpR X (compareOp .NotIn) (rInO C sp E true) := by
  intro pins s σ H x y v u Q I rx ry h
  obtain ⟨a, dx, fs, rfl, ha, q⟩ := h
  cases ry
  obtain ⟨oa, da, Ja⟩ := inst_of I ha
  obtain ⟨mm, Fm⟩ := I.fr
  have one := run_op F hr hb hx I (.cons (relRef _) (.cons rx .nil)) q
  refine PySem.W.notIn_K Fm I.mod.kin Ja M.at_ M.fn (wpAny_mono one (fun r s' z => ?_) fun _ _ z => z)
  obtain ⟨w, H', I', rw', b, rfl, q'⟩ := z
  cases rw'
  exact wpAny_truthy_bool ⟨.bl (!b), H', I', rfl, q'⟩
/-- len(a) by an own method -/
def rLenO (C : Addr) (sp : Sp) (E : XK) : List V → Hp → VK → Prop := fun xs H Q => ∃ a dx fs, xs = [.ref a] ∧ H a = some (.ins C dx fs) ∧ sp [.ref a] H (fun v H' => ∃ n : Int, v = .int n ∧ 0 ≤ n ∧ n < 2 ^ 63 ∧ Q (.int n) H') E
/-- truth of a by an own method -/
def rTruO (C : Addr) (sp : Sp) (E : XK) : V → Hp → (Bool → Hp → Prop) → Prop := fun x H Q => ∃ a dx fs, x = .ref a ∧ H a = some (.ins C dx fs) ∧ sp [.ref a] H (fun v H' => ∃ b, v = .bl b ∧ Q b H') E
theorem tru_own (M : OpC X.K C "__bool__" f) (F : FnOk X.prog X.w X.K X.mg X.base CX k f fd ps sp) (hr : Room k X.A) (hb : Binds X.K fd ps []) (hx : Passes CX X E) : TruR X (rTruO C sp E) := by
  intro pins s σ H x v Q I rx h
  obtain ⟨a, dx, fs, rfl, ha, q⟩ := h
  cases rx
  obtain ⟨oa, da, Ja⟩ := inst_of I ha
  obtain ⟨mm, Fm⟩ := I.fr
  have one := run_op F hr hb hx I (.cons (relRef _) .nil) q
  refine PySem.W.truthy_K Fm I.mod.kin Ja M.at_ M.fn (wpAny_mono one (fun r s' z => ?_) fun _ _ z => z)
  obtain ⟨w, H', I', rw', b, rfl, q'⟩ := z
  cases rw'
  exact ⟨H', I', q'⟩
/-- a op= y -/
def rIp (C : Addr) (sp : Sp) (E : XK) : TIp := fun x y H Q => ∃ a dx fs, x = .ref a ∧ H a = some (.ins C dx fs) ∧ sp [.ref a, y] H Q E
theorem ip_own {op : Operator} (hc : PySem.W.selfFirst X.K C = true) (M : OpC X.K C (dunderI op.info.2) f) (F : FnOk X.prog X.w X.K X.mg X.base CX k f fd ps sp) (hr : Room k X.A) (hb : Binds X.K fd ps []) (hx : Passes CX X E) : PIp X op (rIp C sp E) := by
  intro pins s σ H x y v u Q I rx ry h
  obtain ⟨a, dx, fs, rfl, ha, q⟩ := h
  cases rx
  obtain ⟨oa, da, Ja⟩ := inst_of I ha
  obtain ⟨mm, Fm⟩ := I.fr
  have one := run_op F hr hb hx I (.cons (relRef _) (.cons ry .nil)) q
  exact PySem.W.ksp_inplace Fm I.mod.kin Ja hc M.at_ M.fn (wpAny_mono one (fun _ _ z => back_ok z) fun _ _ z => z)
/-- the left operand is of a built-in type that declines, the right one an instance of C -/
theorem binR {prog : Program} {w : World} {A : Around} {E' : Value → Shared → Prop} {s : Shared} {K : PySem.W.Frag} {x C f g L : Addr} {h₀ : Heap} {m : Str → Option Value} {ox : Obj} {od : Option Obj} {T : String} {op : Operator} {b : Value} {fo ro : Option Value} {Q : Value → Shared → Prop}
    (F : Fr h₀ L s.heap m) (X₀ : K.In h₀) (J : PySem.W.InstAt s.heap x ox C od) (hb : typeOf b = pure (.type T)) (hc : PySem.W.selfFirst K C = true)
    (hs : PySem.W.findIn K (.ref C) (PySem.dunder op.info.2) = some (some (.ref f))) (hg : PySem.W.findIn K (.ref C) (dunderR op.info.2) = some (some (.ref g))) (hf : PySem.W.isFn K (.ref g) = true)
    (h1 : PySem.W.findIn K (.type T) (PySem.dunder op.info.2) = some fo) (h2 : PySem.W.findIn K (.type T) (dunderR op.info.2) = some ro) (hl : ((fo.isSome && !isSeqSlot fo) || (ro.isSome && !isSeqSlot ro)) = false)
    (h : wpAny (model prog w) A (call (.ref g) [.ref x, b]) (PySem.W.CmpBack Q) E' s) : wpAny (model prog w) A (binaryOp op b (.ref x)) Q E' s := by
  have Xk := X₀.keeps F.keep
  obtain ⟨cd, rest, hcd, hm⟩ := PySem.W.ksp_first hc
  rcases hi : op.info with ⟨sym, nm'⟩
  rw [hi] at hs hg h1 h2
  dsimp only at hs hg h1 h2
  have one := PySem.W.ksp_try Xk J hg hf h
  obtain ⟨hh, gg, d, tt, os⟩ := s
  have L1 : PySem.W.Looks (model prog w) hh (typeOf b) (.type T) := PySem.W.Looks.of_pure hb
  have L2 : PySem.W.Looks (model prog w) hh (typeOf (.ref x)) (.ref C) := J.type
  have L3 : PySem.W.Looks (model prog w) hh (fillsNumberSlot (.ref C) nm') true := PySem.W.fills_K Xk hcd hm hs
  have L4 : PySem.W.Looks (model prog w) hh (fillsNumberSlot (.type T) nm') false := by
    have z := PySem.W.ksp_fillsT (M := model prog w) Xk h1 h2
    rw [hl] at z
    exact z
  have hne : (Value.type T == Value.ref C) = false := Bool.eq_false_iff.mpr fun q => by cases beq_iff_eq.mp q
  simp only [binaryOp, hi]
  refine wpAny_holding (wpAny_bind ?_)
  unfold binaryOp1
  refine wpAny_bind (L1.at (wpAny_bind (L2.at (wpAny_bind (L4.at ?_)))))
  simp only [hne, Bool.false_eq_true, if_false]
  ksp_lk
  refine wpAny_mono one (fun r s' hr' => ?_) fun _ _ e => e
  obtain ⟨v, rfl, hq⟩ := hr'
  ksp_lk
  exact hq
/-- z op a, z a text, a an instance of C -/
def rBinR (C : Addr) (sp : Sp) (E : XK) : R2 := fun x y H Q => ∃ a dx fs z, x = .str z ∧ y = .ref a ∧ H a = some (.ins C dx fs) ∧ sp [.ref a, .str z] H Q E
theorem op_binR {op : Operator} {g : Addr} {fo ro : Option Value} (hc : PySem.W.selfFirst X.K C = true) (M0 : OpC X.K C (PySem.dunder op.info.2) g) (M : OpC X.K C (dunderR op.info.2) f)
    (h1 : PySem.W.findIn X.K (.type "str") (PySem.dunder op.info.2) = some fo) (h2 : PySem.W.findIn X.K (.type "str") (dunderR op.info.2) = some ro) (hl : ((fo.isSome && !isSeqSlot fo) || (ro.isSome && !isSeqSlot ro)) = false)
    (F : FnOk X.prog X.w X.K X.mg X.base CX k f fd ps sp) (hr : Room k X.A) (hb : Binds X.K fd ps []) (hx : Passes CX X E) : OpR X (binaryOp op) (rBinR C sp E) := by
  intro pins s σ H x y v u Q I rx ry h
  obtain ⟨a, dx, fs, z, rfl, rfl, ha, q⟩ := h
  obtain ⟨t, rfl⟩ := rx
  cases ry
  obtain ⟨oa, da, Ja⟩ := inst_of I ha
  obtain ⟨mm, Fm⟩ := I.fr
  have one := run_op F hr hb hx I (.cons (relRef _) (.cons (relStr z t) .nil)) q
  exact binR Fm I.mod.kin Ja (by rfl) hc M0.at_ M.at_ M.fn h1 h2 hl (wpAny_mono one (fun _ _ z => back_ok z) fun _ _ z => z)
/-- a == b by an own __eq__, b an instance of C too -/
theorem op_eqO (M : OpC X.K C "__eq__" f) (F : FnOk X.prog X.w X.K X.mg X.base CX k f fd ps sp) (hr : Room k X.A) (hb : Binds X.K fd ps []) (hx : Passes CX X E) : OpR X (compareOp .Eq) (rBin C sp E) := by
  intro pins s σ H x y v u Q I rx ry h
  obtain ⟨a, dx, fs, b, dy, gs, rfl, rfl, ha, hb2, q⟩ := h
  cases rx
  cases ry
  obtain ⟨oa, da, Ja⟩ := inst_of I ha
  obtain ⟨ob, db, Jb⟩ := inst_of I hb2
  obtain ⟨mm, Fm⟩ := I.fr
  have one := run_op F hr hb hx I (.cons (relRef _) (.cons (relRef b) .nil)) q
  exact PySem.W.cmp_K (op := .Eq) (Nat.lt_of_succ_lt (hu_of hr)) Fm I.mod.kin Ja Jb.type (by show ((Value.ref C == Value.ref C) || _) = true; rw [beq_self_eq_true]; rfl) M.at_ M.fn (wpAny_mono one (fun _ _ z => back_ok z) fun _ _ z => z)
theorem call_lenO (M : OpC X.K C "__len__" f) (F : FnOk X.prog X.w X.K X.mg X.base CX k f fd ps sp) (hr : Room (k + 1) X.A) (hb : Binds X.K fd ps []) (hx : Passes CX X E) : CallR X (.builtin "len") (rLenO C sp E) := by
  intro pins s σ H xs us Q I r h
  obtain ⟨a, dx, fs, rfl, ha, q⟩ := h
  rw [Vals.ref1 r]
  obtain ⟨oa, da, Ja⟩ := inst_of I ha
  obtain ⟨mm, Fm⟩ := I.fr
  have hl : ([Value.ref a] ++ []).length = ps.length := by
    rw [← F.len _ _ _ _ q]
    rfl
  refine PySem.W.len_K Fm I.mod.kin Ja M.at_ M.fn (wpAny_call (codeAny_mono (F.run X.A.in1 X.stack s H ⟨[.ref a], []⟩ [.ref a] [.ref a] _ E hr.in1 I.env0.in1 (hb _ [.ref a] I.kIn hl) (.cons (relRef _) .nil) q) fun r s' hq => ?_))
  cases r with
  | error er => exact hx pins σ H s er s' I hq
  | ok fl =>
    cases fl with
    | ret u =>
      obtain ⟨v, H', I3, rv, n, rfl, h0, h1, q3⟩ := I.after hq
      obtain ⟨t, rfl⟩ := rv
      exact ⟨⟨h0, h1⟩, .int n, H', I3.tok _, ⟨_, rfl⟩, q3⟩
    | next => exact False.elim hq
    | brk => exact False.elim hq
    | cont => exact False.elim hq
end
end Tl

set_option autoImplicit false
set_option maxErrors 4
/-! a * b, a an instance of an own class or b one, the method may raise; operators whose errors are told by the names of the frame. -/
namespace Tl
open PySem PySem.Spec PyProof.Rows L2
/-- an operation, its ways out told by the frame -/
def OpS (X : Cx) (op : Value → Value → Sem Value) (r : L2.St → R2) : Prop :=
  ∀ (pn : List (Addr × Obj)) (t : Shared) (τ : L2.St) (G : Hp) (a b : V) (va vb : Value) (W : VK), Inv X pn τ G t → RelV a va → RelV b vb → r τ a b G W → wpAny (model X.prog X.w) X.A (op va vb) (EP X pn τ W) X.xe t
def tOpS (r : L2.St → R2) (tl tr : TE) : TE := fun τ G W => tl τ G fun a G1 => tr τ G1 fun b G2 => r τ a b G2 W
theorem pe_opS {X : Cx} {l m : Expr} {o : Operator} {at_ : Pos} {tl tr : TE} {r : L2.St → R2} (h : OpS X (binaryOp o) r) (hl : PE X l tl) (hm : PE X m tr) : PE X (.BinOp l o m at_) (tOpS r tl tr) :=
  ⟨fun pn t τ G W I z => wpAny_BinOp (binT hl hm I z fun va vb t2 a b G2 J ra rb y => h pn t2 τ G2 a b va vb W J ra rb y)⟩
/-- a value of a built-in type -/
inductive Pl (H : Hp) : V → String → Prop
  | non : Pl H .non "NoneType"
  | bl (b : Bool) : Pl H (.bl b) "bool"
  | int (n : Int) : Pl H (.int n) "int"
  | str (z : Str) : Pl H (.str z) "str"
  | lst {a : Addr} {xs : List V} : H a = some (.lst xs) → Pl H (.ref a) "list"
theorem Pl.looks {X : Cx} {pn : List (Addr × Obj)} {τ : L2.St} {H : Hp} {t : Shared} {x : V} {u : Value} {T : String} (p : Pl H x T) (I : Inv X pn τ H t) (r : RelV x u) : PySem.W.Looks (model X.prog X.w) t.heap (typeOf u) (.type T) := by
  cases p with
  | non =>
    cases r
    exact PySem.W.Looks.of_pure rfl
  | bl b =>
    cases r
    exact PySem.W.Looks.of_pure rfl
  | int n =>
    obtain ⟨k, rfl⟩ := r
    exact PySem.W.Looks.of_pure rfl
  | str z =>
    obtain ⟨k, rfl⟩ := r
    exact PySem.W.Looks.of_pure rfl
  | @lst a xs e =>
    cases r
    obtain ⟨_, its, n, _, g⟩ := (show ObjOk X.prog X.w H t.heap a (.lst xs) from I.hok a _ e)
    intro _ _ _ _ keep q
    exact wpAny_typeOf_ref (keep _ _ g) q
section
variable {prog : Program} {w : World} {A : Around} {E' : Value → Shared → Prop} {s : Shared} {K : PySem.W.Frag} {x C f g L : Addr} {h₀ : Heap} {m : Str → Option Value} {ox : Obj} {od : Option Obj} {T : String} {op : Operator} {b : Value} {fo ro : Option Value} {Q : Value → Shared → Prop}
/-- the left operand an instance, the right one of a built-in type -/
theorem binL (F : Fr h₀ L s.heap m) (X₀ : K.In h₀) (J : PySem.W.InstAt s.heap x ox C od) (hb : PySem.W.Looks (model prog w) s.heap (typeOf b) (.type T)) (hc : PySem.W.selfFirst K C = true)
    (hs : PySem.W.findIn K (.ref C) (PySem.dunder op.info.2) = some (some (.ref f))) (hf : PySem.W.isFn K (.ref f) = true) (hg : PySem.W.findIn K (.ref C) (dunderR op.info.2) = some (some (.ref g)))
    (h1 : PySem.W.findIn K (.type T) (PySem.dunder op.info.2) = some fo) (h2 : PySem.W.findIn K (.type T) (dunderR op.info.2) = some ro) (no : PySem.W.subIn K (.type T) (.ref C) = some false)
    (h : wpAny (model prog w) A (call (.ref f) [.ref x, b]) (PySem.W.CmpBack Q) E' s) : wpAny (model prog w) A (binaryOp op (.ref x) b) Q E' s := by
  have Xk := X₀.keeps F.keep
  obtain ⟨cd, rest, hcd, hm⟩ := PySem.W.ksp_first hc
  rcases hi : op.info with ⟨sym, nm'⟩
  rw [hi] at hs hg h1 h2
  dsimp only at hs hg h1 h2
  have tried := PySem.W.ksp_try Xk J hs hf h
  obtain ⟨hh, gg, d, tt, os⟩ := s
  have A1 : PySem.W.Looks (model prog w) hh (typeOf (.ref x)) (.ref C) := J.type
  have A2 : PySem.W.Looks (model prog w) hh (typeOf b) (.type T) := hb
  have A3 : PySem.W.Looks (model prog w) hh (fillsNumberSlot (.ref C) nm') true := PySem.W.fills_K Xk hcd hm hs
  have A4 := PySem.W.ksp_fillsT (M := model prog w) Xk h1 h2
  have A5 : PySem.W.Looks (model prog w) hh (isSubtype (.type T) (.ref C)) false := PySem.W.looks_subIn Xk no
  have A6 : PySem.W.Looks (model prog w) hh (numberSlotInPython (.ref C) nm') true := PySem.W.ksp_inPy Xk hs hg (.inr ⟨g, rfl⟩)
  have A7 : PySem.W.Looks (model prog w) hh (numberSlotInPython (.type T) nm') false := PySem.W.Looks.of_pure rfl
  have A8 : PySem.W.Looks (model prog w) hh (typeLookup (.type T) (dunderR nm')) ro := PySem.W.looks_findIn Xk h2
  generalize ((fo.isSome && !isSeqSlot fo) || (ro.isSome && !isSeqSlot ro)) = side at A4
  have unlike : (Value.ref C == Value.type T) = false := Bool.eq_false_iff.mpr fun q => by cases beq_iff_eq.mp q
  simp only [binaryOp, hi]
  refine wpAny_holding (wpAny_bind ?_)
  unfold binaryOp1
  refine wpAny_bind (A1.at (wpAny_bind (A2.at (wpAny_bind (A3.at ?_)))))
  simp only [unlike, Bool.false_eq_true, if_false]
  cases side with
  | false =>
    ksp_lk
    refine wpAny_mono tried (fun r s' z => ?_) fun _ _ e => e
    obtain ⟨v, rfl, q⟩ := z
    ksp_lk
    exact q
  | true =>
    ksp_lk
    refine wpAny_mono tried (fun r s' z => ?_) fun _ _ e => e
    obtain ⟨v, rfl, q⟩ := z
    ksp_lk
    exact q
/-- the left operand of a built-in type without a number's slot, the right one an instance -/
theorem binN (F : Fr h₀ L s.heap m) (X₀ : K.In h₀) (J : PySem.W.InstAt s.heap x ox C od) (hb : PySem.W.Looks (model prog w) s.heap (typeOf b) (.type T)) (hc : PySem.W.selfFirst K C = true)
    (hs : PySem.W.findIn K (.ref C) (PySem.dunder op.info.2) = some (some (.ref f))) (hg : PySem.W.findIn K (.ref C) (dunderR op.info.2) = some (some (.ref g))) (hf : PySem.W.isFn K (.ref g) = true)
    (h1 : PySem.W.findIn K (.type T) (PySem.dunder op.info.2) = some fo) (h2 : PySem.W.findIn K (.type T) (dunderR op.info.2) = some ro) (hl : ((fo.isSome && !isSeqSlot fo) || (ro.isSome && !isSeqSlot ro)) = false)
    (h : wpAny (model prog w) A (call (.ref g) [.ref x, b]) (PySem.W.CmpBack Q) E' s) : wpAny (model prog w) A (binaryOp op b (.ref x)) Q E' s := by
  have Xk := X₀.keeps F.keep
  obtain ⟨cd, rest, hcd, hm⟩ := PySem.W.ksp_first hc
  rcases hi : op.info with ⟨sym, nm'⟩
  rw [hi] at hs hg h1 h2
  dsimp only at hs hg h1 h2
  have tried := PySem.W.ksp_try Xk J hg hf h
  obtain ⟨hh, gg, d, tt, os⟩ := s
  have A1 : PySem.W.Looks (model prog w) hh (typeOf b) (.type T) := hb
  have A2 : PySem.W.Looks (model prog w) hh (typeOf (.ref x)) (.ref C) := J.type
  have A3 : PySem.W.Looks (model prog w) hh (fillsNumberSlot (.ref C) nm') true := PySem.W.fills_K Xk hcd hm hs
  have A4 := PySem.W.ksp_fillsT (M := model prog w) Xk h1 h2
  rw [hl] at A4
  have unlike : (Value.type T == Value.ref C) = false := Bool.eq_false_iff.mpr fun q => by cases beq_iff_eq.mp q
  simp only [binaryOp, hi]
  refine wpAny_holding (wpAny_bind ?_)
  unfold binaryOp1
  refine wpAny_bind (A1.at (wpAny_bind (A2.at (wpAny_bind (A4.at ?_)))))
  simp only [unlike, Bool.false_eq_true, if_false]
  ksp_lk
  refine wpAny_mono tried (fun r s' z => ?_) fun _ _ e => e
  obtain ⟨v, rfl, q⟩ := z
  ksp_lk
  exact q
/-- the left operand of a built-in type whose own method declines -/
theorem binD {id : String} (F : Fr h₀ L s.heap m) (X₀ : K.In h₀) (J : PySem.W.InstAt s.heap x ox C od) (hT : s.TypeIs b T) (hb : PySem.W.Looks (model prog w) s.heap (typeOf b) (.type T)) (hc : PySem.W.selfFirst K C = true)
    (hs : PySem.W.findIn K (.ref C) (PySem.dunder op.info.2) = some (some (.ref f))) (hg : PySem.W.findIn K (.ref C) (dunderR op.info.2) = some (some (.ref g))) (hf : PySem.W.isFn K (.ref g) = true)
    (fills : fillsNumberSlot (.type T) op.info.2 = pure true) (no : PySem.W.subIn K (.ref C) (.type T) = some false) (slot : Slot T (PySem.dunder op.info.2) id)
    (declines : ∀ R : Value → Shared → Prop, R .notImplemented s → wpAny (model prog w) A (call (.builtin id) [b, .ref x]) R E' s)
    (h : wpAny (model prog w) A (call (.ref g) [.ref x, b]) (PySem.W.CmpBack Q) E' s) : wpAny (model prog w) A (binaryOp op b (.ref x)) Q E' s := by
  have Xk := X₀.keeps F.keep
  obtain ⟨cd, rest, hcd, hm⟩ := PySem.W.ksp_first hc
  rcases hi : op.info with ⟨sym, nm'⟩
  rw [hi] at hs hg fills slot
  dsimp only at hs hg fills slot
  have tried := PySem.W.ksp_try Xk J hg hf h
  obtain ⟨hh, gg, d, tt, os⟩ := s
  have A1 : PySem.W.Looks (model prog w) hh (typeOf b) (.type T) := hb
  have A2 : PySem.W.Looks (model prog w) hh (typeOf (.ref x)) (.ref C) := J.type
  have A3 : PySem.W.Looks (model prog w) hh (fillsNumberSlot (.ref C) nm') true := PySem.W.fills_K Xk hcd hm hs
  have A4 : PySem.W.Looks (model prog w) hh (fillsNumberSlot (.type T) nm') true := PySem.W.Looks.of_pure fills
  have A5 : PySem.W.Looks (model prog w) hh (isSubtype (.ref C) (.type T)) false := PySem.W.looks_subIn Xk no
  have A7 : PySem.W.Looks (model prog w) hh (numberSlotInPython (.type T) nm') false := PySem.W.Looks.of_pure rfl
  have unlike : (Value.type T == Value.ref C) = false := Bool.eq_false_iff.mpr fun q => by cases beq_iff_eq.mp q
  simp only [binaryOp, hi]
  refine wpAny_holding (wpAny_bind ?_)
  unfold binaryOp1
  refine wpAny_bind (A1.at (wpAny_bind (A2.at (wpAny_bind (A4.at ?_)))))
  simp only [unlike, Bool.false_eq_true, if_false]
  ksp_lk
  refine wpAny_tryMethod_declines hT slot (declines _ ⟨rfl, ?_⟩)
  ksp_lk
  refine wpAny_mono tried (fun r s' z => ?_) fun _ _ e => e
  obtain ⟨v, rfl, q⟩ := z
  ksp_lk
  exact q
end
theorem asInt_no {M : Model} {A : Around} {E : Value → Shared → Prop} {s : Shared} {p C dx : Addr} {Q : Option Int → Shared → Prop} (g : s.heap.get? p = some (PySem.W.instObj C dx)) (q : Q none s) : wpAny M A (asInt? (.ref p)) Q E s := by
  simp only [asInt?]
  exact wpAny_bind (wpAny_load g (wpAny_pure q))
theorem mul_no (n : Int) (k : Tok) (p C dx : Addr) :
    Meets (Builtin.«int.__mul__» ⟨[.int n k, .ref p], []⟩) (fun _ R t => t.heap.get? p = some (PySem.W.instObj C dx) ∧ R (.ok (.ret Value.notImplemented)) t) := by
  refine .of_wp fun prog w A R t z => ?_
  obtain ⟨hp, gg, dd, tk, os⟩ := t
  obtain ⟨g, z⟩ := z
  wp_walk
  exact ⟨_, rfl, z⟩
theorem mul_noB (n : Bool) (p C dx : Addr) :
    Meets (Builtin.«int.__mul__» ⟨[.bool n, .ref p], []⟩) (fun _ R t => t.heap.get? p = some (PySem.W.instObj C dx) ∧ R (.ok (.ret Value.notImplemented)) t) := by
  refine .of_wp fun prog w A R t z => ?_
  obtain ⟨hp, gg, dd, tk, os⟩ := t
  obtain ⟨g, z⟩ := z
  wp_walk
  exact ⟨_, rfl, z⟩
/-- what the head says of a class with * on both sides -/
structure MulC (K : PySem.W.Frag) (C f g : Addr) : Prop where
  self : PySem.W.selfFirst K C = true
  left : OpC K C (PySem.dunder (Operator.Mult).info.2) f
  right : OpC K C (dunderR (Operator.Mult).info.2) g
  known : ∀ T ∈ ["NoneType", "bool", "int", "str", "list"], (∃ fo ro, PySem.W.findIn K (.type T) (PySem.dunder (Operator.Mult).info.2) = some fo ∧ PySem.W.findIn K (.type T) (dunderR (Operator.Mult).info.2) = some ro ∧
    (T ∈ ["NoneType", "str", "list"] → ((fo.isSome && !isSeqSlot fo) || (ro.isSome && !isSeqSlot ro)) = false)) ∧ PySem.W.subIn K (.type T) (.ref C) = some false ∧ PySem.W.subIn K (.ref C) (.type T) = some false
def mulTB (K : PySem.W.Frag) (C : Addr) (T : String) : Bool := (match PySem.W.findIn K (.type T) (PySem.dunder (Operator.Mult).info.2), PySem.W.findIn K (.type T) (dunderR (Operator.Mult).info.2) with
  | some fo, some ro => decide (T ∈ ["bool", "int"]) || !((fo.isSome && !isSeqSlot fo) || (ro.isSome && !isSeqSlot ro))
  | _, _ => false) && (decide (PySem.W.subIn K (.type T) (.ref C) = some false) && decide (PySem.W.subIn K (.ref C) (.type T) = some false))
def mulB (K : PySem.W.Frag) (C : Addr) : Bool := PySem.W.selfFirst K C && ["NoneType", "bool", "int", "str", "list"].all (mulTB K C)
theorem mulB_ok {K : PySem.W.Frag} {C f g : Addr} (h : mulB K C = true) (l : OpC K C (PySem.dunder (Operator.Mult).info.2) f) (r : OpC K C (dunderR (Operator.Mult).info.2) g) : MulC K C f g := by
  obtain ⟨a, b⟩ := He.ba h
  refine ⟨a, l, r, fun T hT => ?_⟩
  obtain ⟨c, d⟩ := He.ba (List.all_eq_true.mp b T hT)
  obtain ⟨d1, d2⟩ := He.ba d
  refine ⟨?_, of_decide_eq_true d1, of_decide_eq_true d2⟩
  split at c
  · rename_i fo ro e1 e2
    refine ⟨fo, ro, e1, e2, fun m => ?_⟩
    rcases Bool.or_eq_true _ _ ▸ c with z | z
    · exfalso
      have z := of_decide_eq_true z
      simp only [List.mem_cons, List.not_mem_nil, or_false] at z m
      rcases z with rfl | rfl <;> simp at m
    · exact Bool.not_eq_true' _ ▸ z
  · cases c
section
variable {X : Cx} {CX : CXT} {k : Nat} {C f g : Addr} {fd : FuncData} {ps : List Str} {sp : Sp} {E : L2.St → XK}
theorem run_opS {pn : List (Addr × Obj)} {τ : L2.St} {H : Hp} {t : Shared} {W : VK} {vs : List V} {us : List Value} (F : FnOk X.prog X.w X.K X.mg X.base CX k f fd ps sp) (hr : Room k X.A) (hb : Binds X.K fd ps []) (out : PassesAt CX X τ (E τ))
    (I : Inv X pn τ H t) (r : Vals vs us) (h : sp vs H W (E τ)) : wpAny (model X.prog X.w) X.A (call (.ref f) us) (EP X pn τ W) X.xe t := run_fnS F hr hb out I r h
def rMulL (C : Addr) (sp : Sp) (E : L2.St → XK) : L2.St → R2 := fun τ x y H Q => ∃ a dx fs T, x = .ref a ∧ H a = some (.ins C dx fs) ∧ Pl H y T ∧ sp [.ref a, y] H Q (E τ)
theorem op_mulL (M : MulC X.K C f g) (F : FnOk X.prog X.w X.K X.mg X.base CX k f fd ps sp) (hr : Room k X.A) (hb : Binds X.K fd ps []) (out : ∀ τ, PassesAt CX X τ (E τ)) : OpS X (binaryOp .Mult) (rMulL C sp E) := by
  intro pn t τ G x y va vb W I rx ry h
  obtain ⟨a, dx, fs, T, rfl, ha, pl, q⟩ := h
  cases rx
  obtain ⟨oa, da, Ja⟩ := inst_of I ha
  obtain ⟨mm, Fm⟩ := I.fr
  have one := run_opS F hr hb (out τ) I (.cons (relRef _) (.cons ry .nil)) q
  have hT : T ∈ ["NoneType", "bool", "int", "str", "list"] := by cases pl <;> decide
  obtain ⟨⟨fo, ro, e1, e2, _⟩, n1, _⟩ := M.known T hT
  exact binL (op := .Mult) Fm I.mod.kin Ja (pl.looks I ry) M.self M.left.at_ M.left.fn M.right.at_ e1 e2 n1 (wpAny_mono one (fun _ _ z => back_ok z) fun _ _ z => z)
def rMulR (C : Addr) (sp : Sp) (E : L2.St → XK) : L2.St → R2 := fun τ x y H Q => ∃ a dx fs T, y = .ref a ∧ H a = some (.ins C dx fs) ∧ Pl H x T ∧ sp [.ref a, x] H Q (E τ)
theorem op_mulR (M : MulC X.K C f g) (F : FnOk X.prog X.w X.K X.mg X.base CX k g fd ps sp) (hr : Room k X.A) (hb : Binds X.K fd ps []) (out : ∀ τ, PassesAt CX X τ (E τ)) : OpS X (binaryOp .Mult) (rMulR C sp E) := by
  intro pn t τ G x y va vb W I rx ry h
  obtain ⟨a, dx, fs, T, rfl, ha, pl, q⟩ := h
  cases ry
  obtain ⟨oa, da, Ja⟩ := inst_of I ha
  obtain ⟨mm, Fm⟩ := I.fr
  have one := wpAny_mono (run_opS F hr hb (out τ) I (.cons (relRef _) (.cons rx .nil)) q) (fun _ _ z => back_ok z) fun _ _ z => z
  have look := pl.looks I rx
  have hT : T ∈ ["NoneType", "bool", "int", "str", "list"] := by cases pl <;> decide
  obtain ⟨⟨fo, ro, e1, e2, low⟩, _, n2⟩ := M.known T hT
  obtain ⟨mA, O, _⟩ := ins_get I.hok ha
  cases pl with
  | non => exact binN (op := .Mult) Fm I.mod.kin Ja look M.self M.left.at_ M.right.at_ M.right.fn e1 e2 (low (by decide)) one
  | str z => exact binN (op := .Mult) Fm I.mod.kin Ja look M.self M.left.at_ M.right.at_ M.right.fn e1 e2 (low (by decide)) one
  | lst e => exact binN (op := .Mult) Fm I.mod.kin Ja look M.self M.left.at_ M.right.at_ M.right.fn e1 e2 (low (by decide)) one
  | int n =>
    obtain ⟨kk, rfl⟩ := rx
    exact binD (op := .Mult) Fm I.mod.kin Ja (typeIs_int t n kk) look M.self M.left.at_ M.right.at_ M.right.fn PySem.F.fills_int_mul n2 PySem.F.slot_int_mul
      (fun R r => call_meets PySem.F.slot_int_mul (typeIs_int t n kk) PySem.F.entry_int_mul (PySem.F.args_int_mul_2 _ _) (mul_no n kk a C dx) ⟨O.obj, r⟩) one
  | bl b =>
    cases rx
    exact binD (op := .Mult) Fm I.mod.kin Ja (PySem.typeIs_bool t b) look M.self M.left.at_ M.right.at_ M.right.fn PySem.F.fills_bool_mul n2 PySem.F.slot_bool_mul
      (fun R r => call_meets PySem.F.slot_bool_mul (PySem.typeIs_bool t b) PySem.F.entry_int_mul (PySem.F.args_int_mul_2 _ _) (mul_noB b a C dx) ⟨O.obj, r⟩) one
end
end Tl

/-! Exceptions: X() of an own class, C(e) with an own __init__ where nothing is handled, a def called in an except suite that knows the exception, isinstance of it there. -/
namespace Tl
open PySem PySem.Spec PyProof.Rows L2
section
variable {X : Cx} {C : Addr} {bmB : List Value} {B newId initId : String}
/-- X() -/
theorem pmkN_own0 {x : Str} {p pos : Pos} (Fb : ExcBaseFacts B newId initId bmB) (hq : PySem.W.excIn X.K C bmB newId = true) (gC : X.mg x = some (.ref C)) (kC : PySem.W.keepIn X.K (.ref C) = true) (r : Raises X (.ref C)) (hg : Gl X x)
    (hdb : (x == ("__debug__" : Str)) = false := by decide) : L2N.PMk X (.Call (.Name x p) [] [] pos) (fun _ H Q => Q (.ref C) none H) := by
  intro pins s σ H Q I h
  refine wpAny_Call_Name_kw (ld_glob I hg gC ?_ hdb)
  refine PySem.W.callWith_K0 I.kIn kC ?_
  show wpAny _ _ (call (.ref C) []) _ _ _
  obtain ⟨bm, N, nm, qn, bs, hdct, sn, sub, ab, col, dd, k0, k1, k2, k3, k5, mN, hC, hN, hni, T⟩ := exc_obj I.kIn hq
  exact wpAny_call_exc_subT Fb T hC hN hni (fun h' e hm => L2N.mk_of I hm r h (I.hok.gone hm.new)) (Nat.zero_le _)
end
/-- C(e, ..) with an own __init__, nothing being handled -/
theorem pmkN_oex {X : Cx} {CX : CXT} {x : Str} {e : Expr} {es : List Expr} {ta : TA} {p pos : Pos} {C fI : Addr} {k : Nat} {fd : FuncData} {ps : List Str} {sp : Sp} (T : OexC X.K C) (iC : PySem.W.findIn X.K (.ref C) "__init__" = some (some (.ref fI))) (tI : PySem.W.typeIn X.K (.ref fI) = some (.type "function"))
    (Fi : FnOk X.prog X.w X.K X.mg X.base CX k fI fd ps sp) (hr : Room (k + 1) X.A) (hb : Binds X.K fd ps []) (hx : Passes CX X (fun _ _ _ => False)) (hg : Gl X x) (hm : X.mg x = some (.ref C)) (ha : PA X (e :: es) ta)
    (hdb : (x == ("__debug__" : Str)) = false := by decide) (he : starEach (e :: es) X.env = (false, eval e X.env) :: starEach es X.env := by rfl) (hpl : (backTo pos (starEach es X.env)).any (·.1) = false := by rfl) :
    L2N.PMk X (.Call (.Name x p) (e :: es) [] pos) (tMkO C sp [] ta) := by
  intro pins s σ H Q I h
  obtain ⟨nm, qn, N, bs, bm, sn, sub, ab, col, dd, k0, k1, k2, k3, k5, hC, hbm⟩ := T.cls
  refine wpAny_Call_Name_kw (ld_glob I hg hm ?_ hdb)
  refine PySem.W.callWith_K (h₀ := X.base) I.ok.mod.kin T.kC (thn (ha.run pos pins s σ H _ I h) fun us s1 ⟨vs, H1, I1, r1, hz, q1⟩ => ⟨I1.kIn, ?_⟩) he hpl
  show wpAny _ _ (call (.ref C) us) _ _ _
  obtain ⟨hh, gn, dr, tk, os⟩ := s1
  generalize hA : hh.objs.size + 1 = A
  have hle : hh.objs.size ≤ A := by
    rw [← hA]
    exact Nat.le_succ _
  have hq := q1 A (I1.hok.fresh hle)
  rw [List.append_nil] at hq
  generalize hG : (hh.push (PySem.W.kdv_tup us)).push (PySem.HandSPX.excO C hh.objs.size) = G
  have kk : ∀ b o, hh.get? b = some o → G.get? b = some o := fun b o z => by
    rw [← hG]
    exact Heap.get?_push_of_some _ (Heap.get?_push_of_some _ z)
  have hget : G.get? A = some (PySem.HandSPX.excO C hh.objs.size) := by
    rw [← hG, ← hA]
    heap_get
  have I2 : Inv X pins σ (upd H1 A (exo A C none)) ⟨G, gn, dr, tk, os⟩ := I1.laid (t' := tk) (a := A) (o := exo A C none) (h' := G) kk hle (exo_ok hget)
  have r2 : Vals (V.ref A :: vs) (Value.ref A :: us) := .cons rfl r1
  have hl : (Value.ref A :: us ++ []).length = ps.length := by
    rw [List.append_nil, ← Fi.len _ _ _ _ hq]
    exact r2.length.symm
  have hus : us.length ≤ sizeLine := by
    rw [← Paired.length r1, sizeLine_eq]
    omega
  have b2 := hb _ (Value.ref A :: us) I2.kIn hl
  rw [List.append_nil] at b2
  have run := Fi.run _ X.stack _ _ ⟨Value.ref A :: us, []⟩ (Value.ref A :: us) _ _ (fun _ _ _ => False) (hr.make C us []) (I2.env0.make C us []) b2 r2 hq
  subst hA hG
  refine wpAny_call (PySem.HandSPX.call_own F.excBase_ValueError (fun Y => PySem.HandSPX.refsVE_contains Y bm hbm) (I1.kIn _ _ hC) (PySem.W.looks_findIn I1.kIn iC) (fun self => PySem.W.bind_fn I1.kIn self tI) hus (codeAny_mono run fun r s' hq' => ?_))
  cases r with
  | error er => exact hx pins σ _ _ er s' I2 hq'
  | ok fl =>
    cases fl with
    | ret u =>
      obtain ⟨v, H2, os2, bare2, un2, hok2, rv, ev, d, fs, ea, ed, hd1, q2⟩ := hq'
      subst ev
      obtain ⟨h2, g2, d2, t2, os'⟩ := s'
      obtain ⟨t0, G2, J, kG, ge, hoe, na⟩ := mk_end0 (d2 := d2) (t2 := t2) I1 hle kk un2 hok2 os2 bare2 ea ed hd1
      refine ⟨rv, _, _, _, ⟨G2, g2, d2, t2, os'⟩, _, .ref C, some d, rfl, J, kG, ge, hoe, ⟨rfl, rfl, fun vs hv => ?_⟩, rfl, rfl, na, rfl, bare2, raises_own T.exC T.tyC, q2⟩
      cases hv
      rfl
    | next => exact False.elim hq'
    | brk => exact False.elim hq'
    | cont => exact False.elim hq'
end Tl

set_option autoImplicit false
set_option maxErrors 4
/-! Several clauses `except C as n`; isinstance of the exception that a suite holds, its dict there or not. -/
namespace Tl
open PySem PySem.Spec PyProof.Rows L2
open L2N (Zn)
/-- several clauses `except C as n` -/
def wNamed (K : PySem.W.Frag) (Wo : WX) (D : Ends) : List (Value × Nat × (Addr → Value → Option Addr → TS)) → WX
  | [] => Wo
  | (c, i, ts) :: more => fun cls d σ H => ∃ yes, PySem.W.exmOne K cls c = some yes ∧ (yes = false → wNamed K Wo D more cls d σ H) ∧
      (yes = true → ∀ a, H a = none → ts a cls d ⟨fun σ1 H1 => D.nx (σ1.set i none) H1, D.rt, fun σ1 H1 => D.bk (σ1.set i none) H1, fun σ1 H1 => D.ct (σ1.set i none) H1⟩ (σ.set i (some (.ref a))) H)
inductive Clauses (X : Cx) : List ExceptHandler → List (Value × Nat × (Addr → Value → Option Addr → TS)) → Prop
  | none : Clauses X [] []
  | more {x n : Str} {c : Value} {i : Nat} {ts : Addr → Value → Option Addr → TS} {st : Stmt} {sts : List Stmt} {p1 p2 : Pos} {hds : List ExceptHandler} {l : List (Value × Nat × (Addr → Value → Option Addr → TS))}
      (nm : Names X x c) (at_ : X.N[i]? = some n) (lo : X.env.kindOf n = some .local)
      (su : ∀ (a : Addr) (oe : Obj) (cls : Value) (d : Option Addr) (pn : List (Addr × Obj)), Zn cls d oe → (∃ vs, oe.data = .fields vs) → PSs (X.suite a ((a, oe) :: pn)) (st :: sts) (ts a cls d))
      (tl : Clauses X hds l) : Clauses X (.ExceptHandler (some (.Name x p1)) (some n) (st :: sts) p2 :: hds) ((c, i, ts) :: l)
/-- a caught exception at a, on the ground: what stood ahead of it, what it is -/
structure Down (X : Cx) (pins : List (Addr × Obj)) (σ : L2.St) (H : Hp) (cls : Value) (d : Option Addr) (a : Addr) (B : Heap) (s0 s3 : Shared) : Prop where
  inv : Inv X pins σ H s0
  low : ∀ b o, s0.heap.get? b = some o → b ∉ frs X.stack → B.get? b = some o
  up : s0.heap.UpToSlots s3.heap
  fly : HandSPX.FlyingZ B (X.env :: X.outer) a (Zn cls d) s3.heap
  os : s3.os = s0.os
  gs : AllBare s3.gens
  na : H a = none
section
variable {X : Cx} {pins : List (Addr × Obj)} {σ : L2.St} {H : Hp} {cls : Value} {d : Option Addr} {a : Addr} {B : Heap} {s0 s3 : Shared}
theorem Down.here (D : Down X pins σ H cls d a B s0 s3) : Inv X pins σ H s3 := D.inv.landed D.low D.fly.1 D.up D.os D.gs
theorem Down.next {hp : Heap} (D : Down X pins σ H cls d a B s0 s3) (f : HandSPX.FlyingZ B (X.env :: X.outer) a (Zn cls d) hp) (u : s3.heap.UpToSlots hp) : Down X pins σ H cls d a B s0 { s3 with heap := hp } :=
  ⟨D.inv, D.low, D.up.trans u, f, D.os, D.gs, D.na⟩
/-- the state as a suite sees it -/
theorem Down.inside (D : Down X pins σ H cls d a B s0 s3) (hf : X.env.frame = some X.env.locals) :
    ∃ oe vs, s3.heap.get? a = some oe ∧ Zn cls d oe ∧ oe.data = .fields vs ∧ Inv (X.suite a ((a, oe) :: (X.pn ++ pins))) [] σ H s3 := by
  obtain ⟨oe, vs, g, z, e⟩ := D.fly.there
  have off : a ∉ frs (X.env :: X.outer) := fun m => by
    obtain ⟨_, o2, g2, n2⟩ := D.fly.2.2.1.mem m
    rw [g] at g2
    cases g2
    exact n2 _ e
  refine ⟨oe, vs, g, z, e, D.here.suite g e D.na (fun q => off ?_) (fun m => off ?_)⟩
  · exact List.mem_filterMap.mpr ⟨_, List.mem_cons_self, by rw [hf, q]⟩
  · obtain ⟨v, vm, vq⟩ := List.mem_filterMap.mp m
    exact List.mem_filterMap.mpr ⟨v, List.mem_cons_of_mem _ vm, vq⟩
/-- one clause -/
theorem clause_one {x n : Str} {c : Value} {i : Nat} {yes : Bool} {ts : Addr → Value → Option Addr → TS} {st : Stmt} {sts : List Stmt} {p1 p2 : Pos} {hds : List ExceptHandler} {E : Ends}
    (D : Down X pins σ H cls d a B s0 s3) (hf : X.env.frame = some X.env.locals) (nd : X.N.Nodup) (nm : Names X x c) (at_ : X.N[i]? = some n) (lo : X.env.kindOf n = some .local)
    (su : ∀ (a : Addr) (oe : Obj) (cls : Value) (d : Option Addr) (pn : List (Addr × Obj)), Zn cls d oe → (∃ vs, oe.data = .fields vs) → PSs (X.suite a ((a, oe) :: pn)) (st :: sts) (ts a cls d))
    (hy : PySem.W.exmOne X.K cls c = some yes) (no : yes = false → wpAny (model X.prog X.w) X.A (handleBy (.ref a) X.env hds) (SP X pins E) X.xe s3)
    (ok : yes = true → ts a cls d ⟨fun σ1 H1 => E.nx (σ1.set i none) H1, E.rt, fun σ1 H1 => E.bk (σ1.set i none) H1, fun σ1 H1 => E.ct (σ1.set i none) H1⟩ (σ.set i (some (.ref a))) H) :
    wpAny (model X.prog X.w) X.A (handleBy (.ref a) X.env (.ExceptHandler (some (.Name x p1)) (some n) (st :: sts) p2 :: hds)) (SP X pins E) X.xe s3 := by
  obtain ⟨o1, w1, g1, z1, e1, I1⟩ := D.inside hf
  have TY : PySem.W.Looks (model X.prog X.w) s3.heap (typeOf (.ref a)) cls := fun _ _ _ _ k q => wpAny_typeOf_ref (k _ _ g1) (by rw [z1.1]; exact q)
  have asked := PySem.W.exm_one (M := model X.prog X.w) D.here.kIn TY hy
  refine wpAny_handleBy_cons (codeAny_handlers_test ?_) fun q => by cases q
  have word : ∀ {Q E : Value → Shared → Prop}, Q c s3 → wpAny (model X.prog X.w) (X.A.mark (some (.ref a))) (eval (.Name x p1) X.env) Q E s3 := by
    intro Q E q
    obtain ⟨gl, nb, mine | ⟨other, boot, nn⟩⟩ := nm
    · exact ld_glob I1 gl mine q nb
    · exact ld_blt I1 gl other boot q nn nb
  refine word (asked.here ?_)
  cases yes with
  | false => exact no rfl
  | true =>
    refine codeAny_handlers_suite_as (HandSPX.lands_againZ D.fly fun hp f u => ?_)
    have D2 := D.next f u
    obtain ⟨o2, w2, g2, z2, e2, I2⟩ := D2.inside hf
    refine store_ok (X := X.suite a ((a, o2) :: (X.pn ++ pins))) (v := .ref a) I2 nd at_ (.inl lo) rfl (fun s5 I5 => ?_) (.inr lo)
    refine wpAny_mono ((su a o2 cls d _ z2 ⟨_, e2⟩).run [] s5 _ H _ I5 (ok rfl)) (fun fl s6 h6 => ?_) fun _ _ z => z.elim
    have leave : ∀ {σ6 : L2.St} {H6 : Hp} {R : Shared → Prop}, Inv (X.suite a ((a, o2) :: (X.pn ++ pins))) [] σ6 H6 s6 → (∀ s7, Inv X pins (σ6.set i none) H6 s7 → R s7) →
        wpAny (model X.prog X.w) X.A (do bindName X.env n .none; unbindBehindTheSuite X.env n p2) (fun _ s7 => R s7) X.xe s6 := fun I6 r => gone_ok (I6.unsuite D.inv.ok) nd at_ lo r
    cases fl with
    | ret u =>
      obtain ⟨v6, _, _, I6, r6, q6⟩ := h6
      exact leave I6 fun _ I7 => ⟨v6, _, _, I7, r6, q6⟩
    | next =>
      obtain ⟨_, _, I6, q6⟩ := h6
      exact leave I6 fun _ I7 => ⟨_, _, I7, q6⟩
    | brk =>
      obtain ⟨_, _, I6, q6⟩ := h6
      exact leave I6 fun _ I7 => ⟨_, _, I7, q6⟩
    | cont =>
      obtain ⟨_, _, I6, q6⟩ := h6
      exact leave I6 fun _ I7 => ⟨_, _, I7, q6⟩
/-- no clause took it -/
theorem clause_none {Wo : WX} {Q : Flow → Shared → Prop} (D : Down X pins σ H cls d a B s0 s3) (hs : X.stack = X.env :: X.outer) (hf : X.env.frame = some X.env.locals) (tk : L2N.Takes X Wo) (q : Wo cls d σ H) :
    wpAny (model X.prog X.w) X.A (handleBy (.ref a) X.env []) Q X.xe s3 := by
  obtain ⟨_, _, _, oe, w, T, _, _, g, _, e, t1, _⟩ := id D.fly
  refine wpAny_handleBy_nil ?_
  unfold PySem.passOn
  refine wpAny_bind (wpAny_field g e t1 ?_)
  rw [if_neg (by simp)]
  have out : wpAny (model X.prog X.w) X.A (setFlight (.ref a) X.env.frame) (fun _ s4 => wpAny (model X.prog X.w) X.A (throw (.ref a) : Sem Flow) Q X.xe s4) X.xe s3 := by
    rw [hf]
    refine HandSPX.setFlight_upZ D.fly fun hp held u => wpAny_throw (tk _ _ ⟨a, B, s0, pins, σ, H, cls, d, rfl, D.inv, D.low, D.up.trans u, .inr (.inr (by rw [hs]; exact held)), D.na, D.os, D.gs, q⟩)
  first
    | exact wpAny_bind (wpAny_pure (wpAny_bind out))
    | exact wpAny_bind out
theorem clauses_run {Wo : WX} {E : Ends} (hs : X.stack = X.env :: X.outer) (hf : X.env.frame = some X.env.locals) (nd : X.N.Nodup) (tk : L2N.Takes X Wo) (D : Down X pins σ H cls d a B s0 s3) :
    ∀ {hds : List ExceptHandler} {l : List (Value × Nat × (Addr → Value → Option Addr → TS))}, Clauses X hds l → wNamed X.K Wo E l cls d σ H → wpAny (model X.prog X.w) X.A (handleBy (.ref a) X.env hds) (SP X pins E) X.xe s3 := by
  intro hds l cl
  induction cl with
  | none => exact fun q => clause_none D hs hf tk q
  | more nm at_ lo su tl ih =>
    rintro ⟨yes, hy, no, ok⟩
    exact clause_one D hf nd nm at_ lo su hy (fun n => ih (no n)) fun y => ok y a D.na
end
/-- try: body; except C1 as n: ..; except C2 as n: .. -/
theorem ps_try_named {X : Cx} {body : List Stmt} {h1 : ExceptHandler} {hds : List ExceptHandler} {l : List (Value × Nat × (Addr → Value → Option Addr → TS))} {pos : Pos} {tb : WX → TS} {Wo : WX}
    (hs : X.stack = X.env :: X.outer) (hf : X.env.frame = some X.env.locals) (nd : X.N.Nodup) (tk : L2N.Takes X Wo)
    (hb : ∀ (W : WX) (pn : List (Addr × Obj)) (xe : Value → Shared → Prop), L2N.Takes (X.tr pn xe) W → PassesOwn (model X.prog X.w) X.A X.env xe → PSs (X.tr pn xe) body (tb W))
    (cl : Clauses X (h1 :: hds) l) : PS X (.Try body (h1 :: hds) [] [] pos) (fun E σ H => tb (wNamed X.K Wo E l) E σ H) := by
  refine ⟨fun pins s σ H E I q => wpAny_Try_except (wpAny_mono ((hb _ (X.pn ++ pins) (fun u s1 => wpAny (model X.prog X.w) X.A (noteFrame u X.env) (fun _ s2 => wpAny (model X.prog X.w) X.A (setFlight u none) (fun _ s3 =>
    wpAny (model X.prog X.w) X.A (handleBy u X.env (h1 :: hds)) (SP X pins E) X.xe s3) X.xe s2) X.xe s1) (fun u s1 xx => ?_) PassesOwn.looking).run [] s σ H E (I.toTry _) q) (fun fl s1 h => ?_) fun _ _ z => z)⟩
  · obtain ⟨a, B, s0, pins2, σ1, H1, cls, d, rfl, J, low, up, sky, na, os, gs, w⟩ := xx
    have fr : X.A.frames = some (X.env :: X.outer) := by rw [I.ok.frames, hs]
    show wpAny _ X.A (noteFrame (.ref a) X.env) _ _ _
    refine L2N.Sky.land L2N.Zn.steady fr hf (by rw [← hs]; exact sky) fun hp fly u => ?_
    exact clauses_run hs hf nd tk (s0 := s0) (s3 := { s1 with heap := hp }) ⟨J.ofTry I.ok, low, up.trans u, fly, os, gs, na⟩ cl w
  · cases fl with
    | ret u =>
      obtain ⟨v, _, _, J, r, z⟩ := h
      exact ⟨v, _, _, J.ofTry I.ok, r, z⟩
    | next =>
      obtain ⟨_, _, J, z⟩ := h
      exact wpAny_execs_nil ⟨_, _, J.ofTry I.ok, z⟩
    | brk =>
      obtain ⟨_, _, J, z⟩ := h
      exact ⟨_, _, J.ofTry I.ok, z⟩
    | cont =>
      obtain ⟨_, _, J, z⟩ := h
      exact ⟨_, _, J.ofTry I.ok, z⟩
/-- isinstance(e, C), e the exception at p -/
def rIsP (K : PySem.W.Frag) (p : Addr × Obj) : List V → Hp → VK → Prop := fun xs H Q => ∃ (D : Addr) (d : Option Addr) (c : V) (cv : Value) (b : Bool), xs = [.ref p.1, c] ∧ ExcC K D ∧ Zn (.ref D) d p.2 ∧ (∃ vs, p.2.data = .fields vs) ∧
  (∀ dx, d = some dx → ∃ fs, H dx = some (.xd fs)) ∧ (∀ u, RelV c u → u = cv) ∧ PySem.W.kitOne K (.ref D) cv = some b ∧ Q (.bl b) H
theorem call_isP {X : Cx} {p : Addr × Obj} (hp : p ∈ X.pn) : CallR X (.builtin "isinstance") (rIsP X.K p) := by
  intro pins s σ H xs us Q I r h
  obtain ⟨D, d, c, cv, b, rfl, C, z, ⟨w, e⟩, hd, hc, hk, q⟩ := h
  cases r with
  | cons r1 rr =>
    cases rr with
    | cons r2 rr =>
      cases rr
      cases r1
      have ec := hc _ r2
      subst ec
      obtain ⟨g, _⟩ := I.pin p (List.mem_append.mpr (.inl hp))
      have cl : (PySem.W.clsIn X.K D).isSome = true := by
        obtain ⟨cd, h1, _⟩ := PySem.W.any_some C.hd
        rw [h1]
        rfl
      have J : ∃ od, PySem.W.InstAt s.heap p.1 p.2 D od := by
        cases d with
        | none => exact ⟨none, g, z.1, by unfold PySem.W.notCls; rw [e] <;> rfl, by rw [z.2.1]; trivial⟩
        | some dx =>
          obtain ⟨fs, hx⟩ := hd dx rfl
          obtain ⟨mA, hn, _⟩ : ObjOk X.prog X.w H s.heap dx (.xd fs) := I.hok dx _ hx
          obtain ⟨od, _, _, ho, _⟩ := hn
          exact ⟨some od, g, z.1, by unfold PySem.W.notCls; rw [e] <;> rfl, by rw [z.2.1]; exact ho⟩
      obtain ⟨od, J⟩ := J
      exact PySem.W.kia_one (PySem.W.kitx_exc cl C.hg C.hk C.hs C.ha C.hn C.ht C.hm) I.kIn J hk (fun z => nomatch z) fun tk => ⟨.bl b, H, I.kept (t' := tk) fun _ _ z => z, rfl, q⟩
end Tl

set_option autoImplicit false
set_option maxErrors 4
/-! Defs called within an except suite whose promise speaks of the exception that is handled. -/
namespace Tl
open PySem PySem.Spec PyProof.Rows L2
open L2N (Zn)
/-- the context handles p's object -/
def HotP (X : Cx) (p : Addr × Obj) : Prop := L2H.Hot1 X.A p ∧ p ∈ X.pn
theorem hotP_suite {X : Cx} {a : Addr} {oe : Obj} {cls : Value} {d : Option Addr} {pn : List (Addr × Obj)} (z : Zn cls d oe) (e : ∃ vs, oe.data = .fields vs) : HotP (X.suite a ((a, oe) :: pn)) (a, oe) := by
  obtain ⟨vs, e⟩ := e
  exact ⟨⟨rfl, vs, e, z.2.2 vs e⟩, List.mem_cons_self ..⟩
/-- what such a def promises: sp speaks of the exception, too -/
structure FnHP (P : Program) (w : World) (K : PySem.W.Frag) (mg : Str → Option Value) (base : Heap) (CX : CXT) (k : Nat) (f : Addr) (fd : FuncData) (ps : List Str) (sp : Addr × Obj → Sp) : Prop where
  many : ∀ p vs H Q E, sp p vs H Q E → vs.length = ps.length
  does : ∀ (p : Addr × Obj) (A : Around) (outer : List Env) (s : Shared) (H : Hp) (args : Args) (us : List Value) (vs : List V) (Q : VK) (E : XK), L2H.RoomH k A → L2H.Hot1 A p → L2H.PinOk outer H s p → Env0 P w K mg base A outer s H →
    BindsTo s fd args (ps.zip us) → Vals vs us → sp p vs H Q E → codeAny (model P w) A (.call (.ref f) args) (CR CX outer P w H s Q E) s
section
variable {P : Program} {w : World} {K : PySem.W.Frag} {mg : Str → Option Value} {base : Heap} {CX : CXT}
theorem fn_ofHP {k : Nat} {f : Addr} {name qual : Str} {params : Arguments} {body : List Stmt} {scope : Scope} {dV kV doc pm cdv ct oc : Value} {an od : Option Addr} {osl : Array (Option Value)} {N ps : List Str} {sp : Addr × Obj → Sp}
    (at_ : K.lookup f = some ⟨oc, od, .func (PySem.W.fnOf name qual params body scope dV kV doc pm an cdv ct), osl⟩) (code : PySem.W.codeIn K cdv qual = true) (S : FnScope N ps scope) (many : ∀ p vs H Q E, sp p vs H Q E → vs.length = ps.length)
    (inner : ∀ (p : Addr × Obj) (A : Around) (outer : List Env) (s : Shared) (H : Hp) (vs : List V) (Q : VK) (E : XK), L2H.Hot1 A p → L2H.RoomH k (A.deeper (envOfC qual scope s.heap.objs.size f cdv)) → sp p vs H Q E →
      ∃ t, PSs (L2H.cxH CX P w K mg base N qual scope f cdv A outer s H E p) body t ∧ t { nx := fun _ H' => Q .non H', rt := Q } (L2.start N vs) H) :
    FnHP P w K mg base CX (k + 1) f (PySem.W.fnOf name qual params body scope dV kV doc pm an cdv ct) ps sp := by
  refine ⟨many, fun p A outer s H args us vs Q E room hot pin e0 bd rel h => ?_⟩
  have kin : K.In s.heap := e0.mod.kin.keeps fun _ _ g => (e0.bs _ _ g).1
  have places : ∀ y ∈ ps.zip us, scope.names.lookup y.1 = some .local ∨ (scope.names.lookup y.1 = some .cell ∧ ((cellsFrom (s.heap.objs.size + 1) scope.names []).lookup y.1).isSome = true) := by
    rintro ⟨n, v⟩ hy
    cases S.par n (List.of_mem_zip hy).1 with
    | inl q => exact .inl q
    | inr q => exact .inr ⟨q, PySem.W.cellsFrom_some _ _ _ (.inl q)⟩
  refine codeAny_call_function room.depth (kin _ _ at_) rfl S.co S.gen rfl (PySem.W.codeRec_of kin code) (bd _ _ _ _ (wpAny_newFunctionEnv_cells S.kind places fun env he s1 x => ?_))
  subst he
  refine ⟨e0.mod.nolimit.keeps fun _ _ g => (x.toInCall.keep _ _ (e0.bs _ _ g).1), codeAny_func ?_⟩
  obtain ⟨t, ht, q⟩ := inner p A outer s H vs Q E hot (room.deeper _) h
  have I := L2H.inv_startH (CX := CX) (E := E) S pin e0 (many _ _ _ _ _ h) rel x
  refine wpAny_mono (ht.run [] s1 (L2.start N vs) H _ I q) (fun fl s2 h2 => ?_) fun _ _ z => z
  have done : ∀ {σ2 : L2.St} {H2 : Hp} {v : V} {u : Value}, Inv (L2H.cxH CX P w K mg base N qual scope f cdv A outer s H E p) [] σ2 H2 s2 → RelV v u → Q v H2 → CE outer P w H s Q u s2 :=
    fun J r q => ⟨_, _, J.os, J.bare, J.base, J.hok, r, q⟩
  cases fl with
  | next =>
    obtain ⟨_, _, J, q⟩ := h2
    exact done (v := V.non) (u := Value.none) J rfl q
  | ret u =>
    obtain ⟨_, _, _, J, r, q⟩ := h2
    exact done J r q
  | brk =>
    obtain ⟨_, _, _, q⟩ := h2
    exact q.elim
  | cont =>
    obtain ⟨_, _, _, q⟩ := h2
    exact q.elim
end
section
variable {X : Cx} {CX : CXT} {k : Nat} {f : Addr} {fd : FuncData} {ps : List Str} {sp : Addr × Obj → Sp} {E : L2.St → XK} {x : Str} {q pos : Pos} {e : Expr} {es : List Expr} {t : TA} {p : Addr × Obj}
theorem pe_callHP {sq : Sp} (F : FnHP X.prog X.w X.K X.mg X.base CX k f fd ps sp) (weak : ∀ vs H Q E, sq vs H Q E → sp p vs H Q E) (room : L2H.RoomH k X.A) (hot : HotP X p) (hg : Gl X x) (hm : X.mg x = some (.ref f)) (hk : PySem.W.keepIn X.K (.ref f) = true) (hb : Binds X.K fd ps []) (hx : ∀ σ, PassesAt CX X σ (E σ))
    (ha : PA X (e :: es) t) (hdb : (x == ("__debug__" : Str)) = false := by decide) (he : starEach (e :: es) X.env = (false, eval e X.env) :: starEach es X.env := by rfl) (hpl : (backTo pos (starEach es X.env)).any (·.1) = false := by rfl) :
    PE X (.Call (.Name x q) (e :: es) [] pos) (tCallS sq E t) := by
  refine ⟨fun pins s σ H Q I h => wpAny_Call_Name_kw (ld_glob I hg hm (PySem.W.callWith_K (h₀ := X.base) I.ok.mod.kin hk (thn (ha.run pos pins s σ H _ I h) fun us s1 ⟨vs, H1, I1, r, y⟩ => ⟨I1.kIn, ?_⟩) he hpl) hdb)⟩
  have z := weak _ _ _ _ y
  have n : us.length = ps.length := r.length.symm.trans (F.many _ _ _ _ _ z)
  have b := hb s1 us I1.kIn (by rw [List.append_nil]; exact n)
  rw [List.append_nil] at b
  obtain ⟨g, fr, ne, nf, nc⟩ := I1.pin p (List.mem_append_left _ hot.2)
  have off : p.1 ∉ frs X.stack := fun m => by
    cases List.mem_cons.mp (I1.stkSub p.1 m) with
    | inl y => exact ne y
    | inr y => exact nf y
  refine wpAny_call (codeAny_mono (F.does p X.A X.stack s1 H1 ⟨us, []⟩ us vs Q (E σ) room hot.1 ⟨g, fr, off, nc⟩ I1.env0 b r z) fun res s2 y => ?_)
  cases res with
  | error er => exact hx σ pins H1 s1 er s2 I1 y
  | ok fl =>
    cases fl with
    | ret u => exact I1.after y
    | next => exact y.elim
    | brk => exact y.elim
    | cont => exact y.elim
end
end Tl

set_option autoImplicit false
set_option maxErrors 4
/-! A family of exception classes of the program: what the head reads of them. -/
namespace Tl
open PySem PySem.Spec PyProof.Rows L2
section
variable {K : PySem.W.Frag} {C : Addr}
def excCB (K : PySem.W.Frag) (D : Addr) : Bool := He.eqO (PySem.W.findIn K (.ref D) "__getattribute__") (some (some (.builtin "BaseException.__getattribute__"))) && (He.eqO (PySem.W.findIn K (.ref D) "__getattr__") (some none) &&
  (decide (PySem.W.subIn K (.ref D) (.type "BaseException") = some true) && (PySem.W.hasDictIn K D && (He.eqO (PySem.W.findIn K (.ref D) "__class__") (some (some (.builtin "object.__class__"))) &&
  (He.eqO (PySem.W.specialIn K (.builtin "object.__class__") "__get__") (some (some (.builtin "getset_descriptor.__get__"))) && (decide (PySem.W.takesIn K (.builtin "object.__class__") = some true) && decide (PySem.W.mroIn K D (.type "object") = some true)))))))
theorem excCB_ok (h : excCB K C = true) : ExcC K C := by
  obtain ⟨a1, h⟩ := He.ba h
  obtain ⟨a2, h⟩ := He.ba h
  obtain ⟨a3, h⟩ := He.ba h
  obtain ⟨a4, h⟩ := He.ba h
  obtain ⟨a5, h⟩ := He.ba h
  obtain ⟨a6, h⟩ := He.ba h
  obtain ⟨a7, h⟩ := He.ba h
  exact ⟨He.eqO_ok a1, He.eqO_ok a2, of_decide_eq_true a3, a4, He.eqO_ok a5, He.eqO_ok a6, of_decide_eq_true a7, of_decide_eq_true h⟩
/-- the class object of an exception class with an own __init__ -/
def oexO (C : Addr) : Option Obj → Bool
  | some ⟨.type "type", _, .cls cd, sl⟩ => (match cd.mro, sl.toList with
    | .ref D :: bm, [_, _, _, _, some (.builtin n), _] => decide (D = C) && (decide (n = "ValueError.__new__") && (!cd.hasDel && (cd.hasDict && PySem.HandSPX.refsVE bm)))
    | _, _ => false)
  | _ => false
theorem oexO_ok {r : Option Obj} (h : oexO C r = true) : ∃ nm q N bs bm sn sub ab col dd k0 k1 k2 k3 k5, r = some (excClassObj nm q C N bs bm true sn sub ab col dd k0 k1 k2 k3 k5 "ValueError.__new__") ∧ PySem.HandSPX.refsVE bm = true := by
  unfold oexO at h
  split at h
  · rename_i dd cd sl
    split at h
    · rename_i D bm k0 k1 k2 k3 n k5 hm hs
      obtain ⟨e1, h1⟩ := He.ba h
      obtain ⟨e2, h2⟩ := He.ba h1
      obtain ⟨e3, h3⟩ := He.ba h2
      obtain ⟨e4, h4⟩ := He.ba h3
      have e1 := of_decide_eq_true e1
      have e2 := of_decide_eq_true e2
      subst e1 e2
      obtain ⟨nm, bs, mro, ns, qn, hd, sn, sub, ab, col, de⟩ := cd
      dsimp only at hm e3 e4
      have e3 : de = false := by simpa using e3
      subst hm e3 e4
      have es : sl = #[k0, k1, k2, k3, some (.builtin "ValueError.__new__"), k5] := by
        obtain ⟨l⟩ := sl
        simp only at hs
        rw [hs]
      subst es
      exact ⟨nm, qn, ns, bs, bm, sn, sub, ab, col, dd, k0, k1, k2, k3, k5, rfl, h4⟩
    · cases h
  · cases h
def oexB (K : PySem.W.Frag) (C : Addr) : Bool := oexO C (K.lookup C) && (He.eqO (PySem.W.findIn K (.ref C) "__setattr__") (some (some (.builtin "object.__setattr__"))) && (decide (PySem.W.subIn K (.ref C) (.type "BaseException") = some true) &&
  (decide (PySem.W.typeIn K (.ref C) = some (.type "type")) && PySem.W.keepIn K (.ref C))))
theorem oexB_ok (h : oexB K C = true) : OexC K C := by
  obtain ⟨a1, h⟩ := He.ba h
  obtain ⟨a2, h⟩ := He.ba h
  obtain ⟨a3, h⟩ := He.ba h
  obtain ⟨a4, h⟩ := He.ba h
  obtain ⟨nm, q, N, bs, bm, sn, sub, ab, col, dd, k0, k1, k2, k3, k5, e, r⟩ := oexO_ok a1
  exact ⟨⟨nm, q, N, bs, bm, sn, sub, ab, col, dd, k0, k1, k2, k3, k5, e, r⟩, He.eqO_ok a2, of_decide_eq_true a3, of_decide_eq_true a4, h⟩
end
/-- the address of the i-th name -/
def cA (K : PySem.W.Frag) (cn : List Str) (i : Nat) : Addr := He.ga K (cn.getD i "")
def pairB (K : PySem.W.Frag) (cn : List Str) : Bool := (List.range cn.length).all fun i => (List.range cn.length).all fun j =>
  decide (PySem.W.kitOne K (.ref (cA K cn i)) (.ref (cA K cn j)) = some (decide (i = j))) && decide (PySem.W.exmOne K (.ref (cA K cn i)) (.ref (cA K cn j)) = some (decide (i = j)))
def eachB (K : PySem.W.Frag) (cn : List Str) : Bool := (List.range cn.length).all fun i => excCB K (cA K cn i) && (decide (PySem.W.exmOne K (.ref (cA K cn i)) (.ref (He.ga K "TownError")) = some true) && decide (PySem.W.kitOne K (.ref (cA K cn i)) (.type "ValueError") = some true))
def ownB (K : PySem.W.Frag) (cn : List Str) (n : Nat) : Bool := (List.range cn.length).all fun i => decide (i < n) || (oexB K (cA K cn i) && xfB K (cA K cn i))
def townB (K : PySem.W.Frag) (cn : List Str) (n : Nat) : Bool := eachB K cn && (pairB K cn && ownB K cn n)
structure Town (K : PySem.W.Frag) (cn : List Str) (n : Nat) : Prop where
  exc : ∀ i, i < cn.length → ExcC K (cA K cn i)
  base : ∀ i, i < cn.length → PySem.W.exmOne K (.ref (cA K cn i)) (.ref (He.ga K "TownError")) = some true
  ve : ∀ i, i < cn.length → PySem.W.kitOne K (.ref (cA K cn i)) (.type "ValueError") = some true
  is : ∀ i j, i < cn.length → j < cn.length → PySem.W.kitOne K (.ref (cA K cn i)) (.ref (cA K cn j)) = some (decide (i = j))
  ca : ∀ i j, i < cn.length → j < cn.length → PySem.W.exmOne K (.ref (cA K cn i)) (.ref (cA K cn j)) = some (decide (i = j))
  own : ∀ i, n ≤ i → i < cn.length → OexC K (cA K cn i)
  fld : ∀ i, n ≤ i → i < cn.length → XfC K (cA K cn i)
theorem townB_ok {K : PySem.W.Frag} {cn : List Str} {n : Nat} (h : townB K cn n = true) : Town K cn n := by
  obtain ⟨e, h⟩ := He.ba h
  obtain ⟨p, o⟩ := He.ba h
  have e1 := fun i (hi : i < cn.length) => He.ba (List.all_eq_true.mp e i (List.mem_range.mpr hi))
  have p1 := fun i j (hi : i < cn.length) (hj : j < cn.length) => He.ba (List.all_eq_true.mp (List.all_eq_true.mp p i (List.mem_range.mpr hi)) j (List.mem_range.mpr hj))
  have o1 : ∀ i, n ≤ i → i < cn.length → oexB K (cA K cn i) = true ∧ xfB K (cA K cn i) = true := fun i hn hi => by
    have z := List.all_eq_true.mp o i (List.mem_range.mpr hi)
    rw [Bool.or_eq_true, decide_eq_true_eq] at z
    exact z.elim (fun y => absurd y (Nat.not_lt.mpr hn)) He.ba
  exact ⟨fun i hi => excCB_ok (e1 i hi).1, fun i hi => of_decide_eq_true (He.ba (e1 i hi).2).1, fun i hi => of_decide_eq_true (He.ba (e1 i hi).2).2, fun i j hi hj => of_decide_eq_true (p1 i j hi hj).1, fun i j hi hj => of_decide_eq_true (p1 i j hi hj).2,
    fun i hn hi => oexB_ok (o1 i hn hi).1, fun i hn hi => xfB_ok (o1 i hn hi).2⟩
end Tl

set_option autoImplicit false
set_option maxErrors 4
/-! What the head reads of two own classes and two errors. -/
namespace Tl
open PySem PySem.Spec PyProof.Rows L2
section
variable {K : PySem.W.Frag} {S D A B T : Addr}
/-- isinstance reads the class of an instance -/
structure Sees (K : PySem.W.Frag) (S : Addr) : Prop where
  c1 : PySem.W.findIn K (.ref S) "__class__" = some (some (.builtin "object.__class__"))
  c2 : PySem.W.specialIn K (.builtin "object.__class__") "__get__" = some (some (.builtin "getset_descriptor.__get__"))
  c3 : PySem.W.takesIn K (.builtin "object.__class__") = some true
  c4 : PySem.W.mroIn K S (.type "object") = some true
def seesB (K : PySem.W.Frag) (S : Addr) : Bool := (He.eqO (PySem.W.findIn K (.ref S) "__class__") (some (some (.builtin "object.__class__"))) && He.eqO (PySem.W.specialIn K (.builtin "object.__class__") "__get__") (some (some (.builtin "getset_descriptor.__get__")))) &&
  (decide (PySem.W.takesIn K (.builtin "object.__class__") = some true) && decide (PySem.W.mroIn K S (.type "object") = some true))
theorem seesB_ok (h : seesB K S = true) : Sees K S := by
  obtain ⟨a, b⟩ := He.ba h
  obtain ⟨a1, a2⟩ := He.ba a
  obtain ⟨b1, b2⟩ := He.ba b
  exact ⟨He.eqO_ok a1, He.eqO_ok a2, of_decide_eq_true b1, of_decide_eq_true b2⟩
theorem Sees.ty {H : Hp} {a dx : Addr} {fs : List (Str × V)} (s : Sees K S) (c : Cls K S) (e : H a = some (.ins S dx fs)) : TyX K H (.ref a) (.ref S) := .base (.ins e c s.c1 s.c2 s.c3 s.c4)
/-- no built-in value is an S; an S is none of these; a D is no S and no text -/
structure Apart (K : PySem.W.Frag) (S D : Addr) : Prop where
  no : ∀ t ∈ ["NoneType", "bool", "int", "str", "list", "tuple", "dict"], PySem.W.kitOne K (.type t) (.ref S) = some false
  own : PySem.W.kitOne K (.ref S) (.ref S) = some true
  off : ∀ t ∈ ["str", "list", "tuple", "int", "bool"], PySem.W.kitOne K (.ref S) (.type t) = some false
  dS : PySem.W.kitOne K (.ref D) (.ref S) = some false
  dOff : ∀ t ∈ ["str", "list", "tuple", "int", "bool"], PySem.W.kitOne K (.ref D) (.type t) = some false
def apartB (K : PySem.W.Frag) (S D : Addr) : Bool := ((["NoneType", "bool", "int", "str", "list", "tuple", "dict"].all fun t => decide (PySem.W.kitOne K (.type t) (.ref S) = some false)) && decide (PySem.W.kitOne K (.ref S) (.ref S) = some true)) &&
  ((["str", "list", "tuple", "int", "bool"].all fun t => decide (PySem.W.kitOne K (.ref S) (.type t) = some false)) && (decide (PySem.W.kitOne K (.ref D) (.ref S) = some false) && (["str", "list", "tuple", "int", "bool"].all fun t => decide (PySem.W.kitOne K (.ref D) (.type t) = some false))))
theorem apartB_ok (h : apartB K S D = true) : Apart K S D := by
  obtain ⟨a, b⟩ := He.ba h
  obtain ⟨a1, a2⟩ := He.ba a
  obtain ⟨b1, b⟩ := He.ba b
  obtain ⟨b2, b3⟩ := He.ba b
  exact ⟨fun t ht => of_decide_eq_true (List.all_eq_true.mp a1 t ht), of_decide_eq_true a2, fun t ht => of_decide_eq_true (List.all_eq_true.mp b1 t ht), of_decide_eq_true b2, fun t ht => of_decide_eq_true (List.all_eq_true.mp b3 t ht)⟩
/-- two errors under T: A without an __init__, B with one -/
structure Errs (K : PySem.W.Frag) (A B T : Addr) : Prop where
  eA : ExcC K A
  eB : ExcC K B
  mA : PySem.W.exmOne K (.ref A) (.ref A) = some true
  mB : PySem.W.exmOne K (.ref B) (.ref B) = some true
  tA : PySem.W.kitOne K (.ref A) (.ref T) = some true
  vA : PySem.W.kitOne K (.ref A) (.type "ValueError") = some true
  oB : OexC K B
  xB : XfC K B
def errsB (K : PySem.W.Frag) (A B T : Addr) : Bool := ((excCB K A && excCB K B) && (decide (PySem.W.exmOne K (.ref A) (.ref A) = some true) && decide (PySem.W.exmOne K (.ref B) (.ref B) = some true))) &&
  ((decide (PySem.W.kitOne K (.ref A) (.ref T) = some true) && decide (PySem.W.kitOne K (.ref A) (.type "ValueError") = some true)) && (oexB K B && xfB K B))
theorem errsB_ok (h : errsB K A B T = true) : Errs K A B T := by
  obtain ⟨a, b⟩ := He.ba h
  obtain ⟨a1, a2⟩ := He.ba a
  obtain ⟨b1, b2⟩ := He.ba b
  obtain ⟨c1, c2⟩ := He.ba a1
  obtain ⟨c3, c4⟩ := He.ba a2
  obtain ⟨c5, c6⟩ := He.ba b1
  obtain ⟨c7, c8⟩ := He.ba b2
  exact ⟨excCB_ok c1, excCB_ok c2, of_decide_eq_true c3, of_decide_eq_true c4, of_decide_eq_true c5, of_decide_eq_true c6, oexB_ok c7, xfB_ok c8⟩
end
end Tl

namespace K04
open PySem PySem.Spec PyProof.Rows L2
/-! ### the text -/
def top (i : Nat) : Stmt := PySem.Challenge.pw_townlines_k04_kind_operators.main.body.getD i (.Pass ⟨0, 0, 0, 0⟩)
abbrev s_is_integer : Stmt := top 2
abbrev s_is_integer_within : Stmt := top 3
abbrev s_is_row : Stmt := top 4
abbrev s_BadNumber_init_ : Stmt := inClass (top 10) 0
abbrev s_Net_init_ : Stmt := inClass (top 13) 0
abbrev s_places_by_char : Stmt := top 14
abbrev s_place_count : Stmt := top 15
abbrev s_run_net : Stmt := top 16
abbrev s_renumbered : Stmt := top 17
abbrev s_chained : Stmt := top 18
abbrev s_side_by_side : Stmt := top 19
abbrev s_Signs_init_ : Stmt := inClass (top 27) 0
abbrev s_is_sign_text : Stmt := top 29
abbrev s_is_signs : Stmt := top 30
abbrev s_signs_of : Stmt := top 31
abbrev s_Kind_init_ : Stmt := inClass (top 42) 0
abbrev s_Kindrun : Stmt := inClass (top 42) 1
abbrev s_Kindwords : Stmt := inClass (top 42) 2
abbrev s_Kind_add_ : Stmt := inClass (top 42) 3
abbrev s_Kind_or_ : Stmt := inClass (top 42) 4
abbrev s_Kind_mul_ : Stmt := inClass (top 42) 5
abbrev s_Kind_rmul_ : Stmt := inClass (top 42) 6
abbrev s_Kind_eq_ : Stmt := inClass (top 42) 7
abbrev s_Kindalternatives : Stmt := inClass (top 42) 10
abbrev s_are_bounds : Stmt := top 43
abbrev s_is_short_text : Stmt := top 44
abbrev s_without_repeats : Stmt := top 45
abbrev s_is_too_large : Stmt := top 46
abbrev s_alternative_net : Stmt := top 47
abbrev s_l_bag : Stmt := top 50
abbrev s_l_draw : Stmt := top 51
abbrev s_l_alphabet : Stmt := top 52
abbrev s_l_letters : Stmt := top 53
abbrev s_l_signs : Stmt := top 54
abbrev s_l_run : Stmt := top 55
abbrev s_l_rows : Stmt := top 56
abbrev s_l_kind : Stmt := top 57
abbrev s_l_flag : Stmt := top 58
abbrev s_l_kept : Stmt := top 59
abbrev s_l_fits : Stmt := top 60
abbrev s_l_product : Stmt := top 61
abbrev s_l_power : Stmt := top 62
abbrev s_l_told : Stmt := top 63
abbrev s_l_plus : Stmt := top 64
abbrev s_l_either : Stmt := top 65
abbrev s_l_times : Stmt := top 66
abbrev s_l_given : Stmt := top 67
abbrev s_l_right : Stmt := top 68
abbrev s_l_word_row : Stmt := top 69
abbrev s_law : Stmt := top 70
/-! ### names and parameters -/
theorem sc_is_integer : FnScope ["thing"] ["thing"] (defScope s_is_integer) := ⟨rfl, rfl, rfl, by decide +kernel, rfl, by decide +kernel, by decide +kernel⟩
theorem sc_is_integer_within : FnScope ["thing", "low", "high"] ["thing", "low", "high"] (defScope s_is_integer_within) := ⟨rfl, rfl, rfl, by decide +kernel, rfl, by decide +kernel, by decide +kernel⟩
theorem sc_is_row : FnScope ["thing"] ["thing"] (defScope s_is_row) := ⟨rfl, rfl, rfl, by decide +kernel, rfl, by decide +kernel, by decide +kernel⟩
theorem sc_BadNumber_init_ : FnScope ["self", "number"] ["self", "number"] (defScope s_BadNumber_init_) := ⟨rfl, rfl, rfl, by decide +kernel, rfl, by decide +kernel, by decide +kernel⟩
theorem sc_Net_init_ : FnScope ["self", "chars", "follow", "exits"] ["self", "chars", "follow", "exits"] (defScope s_Net_init_) := ⟨rfl, rfl, rfl, by decide +kernel, rfl, by decide +kernel, by decide +kernel⟩
theorem sc_places_by_char : FnScope ["chars", "by_string", "place", "string", "by_char", "places", "char"] ["chars"] (defScope s_places_by_char) := ⟨rfl, rfl, rfl, by decide +kernel, rfl, by decide +kernel, by decide +kernel⟩
theorem sc_place_count : FnScope ["least", "most"] ["least", "most"] (defScope s_place_count) := ⟨rfl, rfl, rfl, by decide +kernel, rfl, by decide +kernel, by decide +kernel⟩
theorem sc_run_net : FnScope ["signs", "least", "most", "count", "after_last", "taken", "follow", "exits"] ["signs", "least", "most"] (defScope s_run_net) := ⟨rfl, rfl, rfl, by decide +kernel, rfl, by decide +kernel, by decide +kernel⟩
theorem sc_renumbered : FnScope ["places", "shift"] ["places", "shift"] (defScope s_renumbered) := ⟨rfl, rfl, rfl, by decide +kernel, rfl, by decide +kernel, by decide +kernel⟩
theorem sc_chained : FnScope ["nets", "chars", "follow", "exits", "net", "shift", "first", "at", "ways", "earlier"] ["nets"] (defScope s_chained) := ⟨rfl, rfl, rfl, by decide +kernel, rfl, by decide +kernel, by decide +kernel⟩
theorem sc_side_by_side : FnScope ["nets", "chars", "first", "follow", "exits", "net", "shift", "ways"] ["nets"] (defScope s_side_by_side) := ⟨rfl, rfl, rfl, by decide +kernel, rfl, by decide +kernel, by decide +kernel⟩
theorem sc_Signs_init_ : FnScope ["self", "text", "sign"] ["self", "text"] (defScope s_Signs_init_) := ⟨rfl, rfl, rfl, by decide +kernel, rfl, by decide +kernel, by decide +kernel⟩
theorem sc_is_sign_text : FnScope ["thing", "sign"] ["thing"] (defScope s_is_sign_text) := ⟨rfl, rfl, rfl, by decide +kernel, rfl, by decide +kernel, by decide +kernel⟩
theorem sc_is_signs : FnScope ["thing"] ["thing"] (defScope s_is_signs) := ⟨rfl, rfl, rfl, by decide +kernel, rfl, by decide +kernel, by decide +kernel⟩
theorem sc_signs_of : FnScope ["thing"] ["thing"] (defScope s_signs_of) := ⟨rfl, rfl, rfl, by decide +kernel, rfl, by decide +kernel, by decide +kernel⟩
theorem sc_Kind_init_ : FnScope ["self", "rows", "row"] ["self", "rows"] (defScope s_Kind_init_) := ⟨rfl, rfl, rfl, by decide +kernel, rfl, by decide +kernel, by decide +kernel⟩
theorem sc_Kindrun : FnScope ["signs", "least", "most", "spelling"] ["signs", "least", "most"] (defScope s_Kindrun) := ⟨rfl, rfl, rfl, by decide +kernel, rfl, by decide +kernel, by decide +kernel⟩
theorem sc_Kindwords : FnScope ["texts", "text", "sign"] ["texts"] (defScope s_Kindwords) := ⟨rfl, rfl, rfl, by decide +kernel, rfl, by decide +kernel, by decide +kernel⟩
theorem sc_Kind_add_ : FnScope ["self", "other", "first", "second"] ["self", "other"] (defScope s_Kind_add_) := ⟨rfl, rfl, rfl, by decide +kernel, rfl, by decide +kernel, by decide +kernel⟩
theorem sc_Kind_or_ : FnScope ["self", "other"] ["self", "other"] (defScope s_Kind_or_) := ⟨rfl, rfl, rfl, by decide +kernel, rfl, by decide +kernel, by decide +kernel⟩
theorem sc_Kind_mul_ : FnScope ["self", "other", "whole", "step"] ["self", "other"] (defScope s_Kind_mul_) := ⟨rfl, rfl, rfl, by decide +kernel, rfl, by decide +kernel, by decide +kernel⟩
theorem sc_Kind_rmul_ : FnScope ["self", "other"] ["self", "other"] (defScope s_Kind_rmul_) := ⟨rfl, rfl, rfl, by decide +kernel, rfl, by decide +kernel, by decide +kernel⟩
theorem sc_Kind_eq_ : FnScope ["self", "other"] ["self", "other"] (defScope s_Kind_eq_) := ⟨rfl, rfl, rfl, by decide +kernel, rfl, by decide +kernel, by decide +kernel⟩
theorem sc_Kindalternatives : FnScope ["self"] ["self"] (defScope s_Kindalternatives) := ⟨rfl, rfl, rfl, by decide +kernel, rfl, by decide +kernel, by decide +kernel⟩
theorem sc_are_bounds : FnScope ["least", "most"] ["least", "most"] (defScope s_are_bounds) := ⟨rfl, rfl, rfl, by decide +kernel, rfl, by decide +kernel, by decide +kernel⟩
theorem sc_is_short_text : FnScope ["thing"] ["thing"] (defScope s_is_short_text) := ⟨rfl, rfl, rfl, by decide +kernel, rfl, by decide +kernel, by decide +kernel⟩
theorem sc_without_repeats : FnScope ["rows", "row", "kept"] ["rows"] (defScope s_without_repeats) := ⟨rfl, rfl, rfl, by decide +kernel, rfl, by decide +kernel, by decide +kernel⟩
theorem sc_is_too_large : FnScope ["rows", "row", "signs", "least", "most"] ["rows"] (defScope s_is_too_large) := ⟨rfl, rfl, rfl, by decide +kernel, rfl, by decide +kernel, by decide +kernel⟩
theorem sc_alternative_net : FnScope ["row", "signs", "least", "most"] ["row"] (defScope s_alternative_net) := ⟨rfl, rfl, rfl, by decide +kernel, rfl, by decide +kernel, by decide +kernel⟩
theorem sc_l_bag : FnScope ["_law_script"] ["_law_script"] (defScope s_l_bag) := ⟨rfl, rfl, rfl, by decide +kernel, rfl, by decide +kernel, by decide +kernel⟩
theorem sc_l_draw : FnScope ["_law_bag_here", "_law_limit", "_law_cell", "_law_number", "_law_drawn", "_law_one"] ["_law_bag_here", "_law_limit"] (defScope s_l_draw) := ⟨rfl, rfl, rfl, by decide +kernel, rfl, by decide +kernel, by decide +kernel⟩
theorem sc_l_alphabet : FnScope ["_law_first"] [] (defScope s_l_alphabet) := ⟨rfl, rfl, rfl, by decide +kernel, rfl, by decide +kernel, by decide +kernel⟩
theorem sc_l_letters : FnScope ["_law_bag_here", "_law_many", "_law_rest", "_law_found", "_law_k"] ["_law_bag_here", "_law_many"] (defScope s_l_letters) := ⟨rfl, rfl, rfl, by decide +kernel, rfl, by decide +kernel, by decide +kernel⟩
theorem sc_l_signs : FnScope ["_law_bag_here", "_law_letters_here", "_law_code", "_law_k"] ["_law_bag_here", "_law_letters_here"] (defScope s_l_signs) := ⟨rfl, rfl, rfl, by decide +kernel, rfl, by decide +kernel, by decide +kernel⟩
theorem sc_l_run : FnScope ["_law_bag_here", "_law_letters_here", "_law_signs_here", "_law_least", "_law_extra"] ["_law_bag_here", "_law_letters_here"] (defScope s_l_run) := ⟨rfl, rfl, rfl, by decide +kernel, rfl, by decide +kernel, by decide +kernel⟩
theorem sc_l_rows : FnScope ["_law_bag_here", "_law_letters_here", "_law_rows_here", "_law_k", "_law_row", "_law_j", "_law_run_here"] ["_law_bag_here", "_law_letters_here"] (defScope s_l_rows) := ⟨rfl, rfl, rfl, by decide +kernel, rfl, by decide +kernel, by decide +kernel⟩
theorem sc_l_kind : FnScope ["_law_rows_here", "_law_kind_here", "_law_row", "_law_one", "_law_signs_here", "_law_least", "_law_top"] ["_law_rows_here"] (defScope s_l_kind) := ⟨rfl, rfl, rfl, by decide +kernel, rfl, by decide +kernel, by decide +kernel⟩
theorem sc_l_flag : FnScope ["_law_actual", "_law_due"] ["_law_actual", "_law_due"] (defScope s_l_flag) := ⟨rfl, rfl, rfl, by decide +kernel, rfl, by decide +kernel, by decide +kernel⟩
theorem sc_l_kept : FnScope ["_law_rows_here", "_law_found", "_law_row"] ["_law_rows_here"] (defScope s_l_kept) := ⟨rfl, rfl, rfl, by decide +kernel, rfl, by decide +kernel, by decide +kernel⟩
theorem sc_l_fits : FnScope ["_law_rows_here", "_law_many", "_law_row", "_law_signs_here", "_law_least", "_law_top"] ["_law_rows_here"] (defScope s_l_fits) := ⟨rfl, rfl, rfl, by decide +kernel, rfl, by decide +kernel, by decide +kernel⟩
theorem sc_l_product : FnScope ["_law_rows_here", "_law_others", "_law_found", "_law_row", "_law_other"] ["_law_rows_here", "_law_others"] (defScope s_l_product) := ⟨rfl, rfl, rfl, by decide +kernel, rfl, by decide +kernel, by decide +kernel⟩
theorem sc_l_power : FnScope ["_law_rows_here", "_law_times_here", "_law_found", "_law_k"] ["_law_rows_here", "_law_times_here"] (defScope s_l_power) := ⟨rfl, rfl, rfl, by decide +kernel, rfl, by decide +kernel, by decide +kernel⟩
theorem sc_l_told : FnScope ["_law_made", "_law_one", "_law_other"] ["_law_made", "_law_one", "_law_other"] (defScope s_l_told) := ⟨rfl, rfl, rfl, by decide +kernel, rfl, by decide +kernel, by decide +kernel⟩
theorem sc_l_plus : FnScope ["_law_one", "_law_other"] ["_law_one", "_law_other"] (defScope s_l_plus) := ⟨rfl, rfl, rfl, by decide +kernel, rfl, by decide +kernel, by decide +kernel⟩
theorem sc_l_either : FnScope ["_law_one", "_law_other"] ["_law_one", "_law_other"] (defScope s_l_either) := ⟨rfl, rfl, rfl, by decide +kernel, rfl, by decide +kernel, by decide +kernel⟩
theorem sc_l_times : FnScope ["_law_one", "_law_other"] ["_law_one", "_law_other"] (defScope s_l_times) := ⟨rfl, rfl, rfl, by decide +kernel, rfl, by decide +kernel, by decide +kernel⟩
theorem sc_l_given : FnScope ["_law_one", "_law_other"] ["_law_one", "_law_other"] (defScope s_l_given) := ⟨rfl, rfl, rfl, by decide +kernel, rfl, by decide +kernel, by decide +kernel⟩
theorem sc_l_right : FnScope ["_law_told_here", "_law_rows_here", "_law_actual"] ["_law_told_here", "_law_rows_here"] (defScope s_l_right) := ⟨rfl, rfl, rfl, by decide +kernel, rfl, by decide +kernel, by decide +kernel⟩
theorem sc_l_word_row : FnScope ["_law_bag_here", "_law_letters_here", "_law_many", "_law_size", "_law_found", "_law_k", "_law_j", "_law_word"] ["_law_bag_here", "_law_letters_here"] (defScope s_l_word_row) := ⟨rfl, rfl, rfl, by decide +kernel, rfl, by decide +kernel, by decide +kernel⟩
theorem sc_law : FnScope ["_law_script", "_law_bag_here", "_law_letters_here", "_law_rows_here", "_law_others", "_law_times_here", "_law_one", "_law_two", "_law_power_here", "_law_words", "_law_word", "_law_sign", "_law_given_here", "_law_k", "_law_j", "_law_many", "_law_twenty", "_law_full", "_law_same"] ["_law_script"] (defScope s_law) := ⟨rfl, rfl, rfl, by decide +kernel, rfl, by decide +kernel, by decide +kernel⟩
/-! ### what the top leaves -/
def d_is_integer : He.DefD := ⟨("is_integer", none), "is_integer", "is_integer", defArgs s_is_integer, defBody s_is_integer, defScope s_is_integer, [], []⟩
def d_is_integer_within : He.DefD := ⟨("is_integer_within", none), "is_integer_within", "is_integer_within", defArgs s_is_integer_within, defBody s_is_integer_within, defScope s_is_integer_within, [], []⟩
def d_is_row : He.DefD := ⟨("is_row", none), "is_row", "is_row", defArgs s_is_row, defBody s_is_row, defScope s_is_row, [], []⟩
def d_BadNumber_init_ : He.DefD := ⟨("BadNumber", some "__init__"), "__init__", "BadNumber.__init__", defArgs s_BadNumber_init_, defBody s_BadNumber_init_, defScope s_BadNumber_init_, [], []⟩
def d_Net_init_ : He.DefD := ⟨("Net", some "__init__"), "__init__", "Net.__init__", defArgs s_Net_init_, defBody s_Net_init_, defScope s_Net_init_, [], []⟩
def d_places_by_char : He.DefD := ⟨("places_by_char", none), "places_by_char", "places_by_char", defArgs s_places_by_char, defBody s_places_by_char, defScope s_places_by_char, [], []⟩
def d_place_count : He.DefD := ⟨("place_count", none), "place_count", "place_count", defArgs s_place_count, defBody s_place_count, defScope s_place_count, [], []⟩
def d_run_net : He.DefD := ⟨("run_net", none), "run_net", "run_net", defArgs s_run_net, defBody s_run_net, defScope s_run_net, [], []⟩
def d_renumbered : He.DefD := ⟨("renumbered", none), "renumbered", "renumbered", defArgs s_renumbered, defBody s_renumbered, defScope s_renumbered, [], []⟩
def d_chained : He.DefD := ⟨("chained", none), "chained", "chained", defArgs s_chained, defBody s_chained, defScope s_chained, [], []⟩
def d_side_by_side : He.DefD := ⟨("side_by_side", none), "side_by_side", "side_by_side", defArgs s_side_by_side, defBody s_side_by_side, defScope s_side_by_side, [], []⟩
def d_Signs_init_ : He.DefD := ⟨("Signs", some "__init__"), "__init__", "Signs.__init__", defArgs s_Signs_init_, defBody s_Signs_init_, defScope s_Signs_init_, [.str ""], []⟩
def d_is_sign_text : He.DefD := ⟨("is_sign_text", none), "is_sign_text", "is_sign_text", defArgs s_is_sign_text, defBody s_is_sign_text, defScope s_is_sign_text, [], []⟩
def d_is_signs : He.DefD := ⟨("is_signs", none), "is_signs", "is_signs", defArgs s_is_signs, defBody s_is_signs, defScope s_is_signs, [], []⟩
def d_signs_of : He.DefD := ⟨("signs_of", none), "signs_of", "signs_of", defArgs s_signs_of, defBody s_signs_of, defScope s_signs_of, [], []⟩
def d_Kind_init_ : He.DefD := ⟨("Kind", some "__init__"), "__init__", "Kind.__init__", defArgs s_Kind_init_, defBody s_Kind_init_, defScope s_Kind_init_, [], []⟩
def d_Kindrun : He.DefD := ⟨("Kind", some "run"), "run", "Kind.run", defArgs s_Kindrun, defBody s_Kindrun, defScope s_Kindrun, [.int 1, .int 1], []⟩
def d_Kindwords : He.DefD := ⟨("Kind", some "words"), "words", "Kind.words", defArgs s_Kindwords, defBody s_Kindwords, defScope s_Kindwords, [], []⟩
def d_Kind_add_ : He.DefD := ⟨("Kind", some "__add__"), "__add__", "Kind.__add__", defArgs s_Kind_add_, defBody s_Kind_add_, defScope s_Kind_add_, [], []⟩
def d_Kind_or_ : He.DefD := ⟨("Kind", some "__or__"), "__or__", "Kind.__or__", defArgs s_Kind_or_, defBody s_Kind_or_, defScope s_Kind_or_, [], []⟩
def d_Kind_mul_ : He.DefD := ⟨("Kind", some "__mul__"), "__mul__", "Kind.__mul__", defArgs s_Kind_mul_, defBody s_Kind_mul_, defScope s_Kind_mul_, [], []⟩
def d_Kind_rmul_ : He.DefD := ⟨("Kind", some "__rmul__"), "__rmul__", "Kind.__rmul__", defArgs s_Kind_rmul_, defBody s_Kind_rmul_, defScope s_Kind_rmul_, [], []⟩
def d_Kind_eq_ : He.DefD := ⟨("Kind", some "__eq__"), "__eq__", "Kind.__eq__", defArgs s_Kind_eq_, defBody s_Kind_eq_, defScope s_Kind_eq_, [], []⟩
def d_Kindalternatives : He.DefD := ⟨("Kind", some "alternatives"), "alternatives", "Kind.alternatives", defArgs s_Kindalternatives, defBody s_Kindalternatives, defScope s_Kindalternatives, [], []⟩
def d_are_bounds : He.DefD := ⟨("are_bounds", none), "are_bounds", "are_bounds", defArgs s_are_bounds, defBody s_are_bounds, defScope s_are_bounds, [], []⟩
def d_is_short_text : He.DefD := ⟨("is_short_text", none), "is_short_text", "is_short_text", defArgs s_is_short_text, defBody s_is_short_text, defScope s_is_short_text, [], []⟩
def d_without_repeats : He.DefD := ⟨("without_repeats", none), "without_repeats", "without_repeats", defArgs s_without_repeats, defBody s_without_repeats, defScope s_without_repeats, [], []⟩
def d_is_too_large : He.DefD := ⟨("is_too_large", none), "is_too_large", "is_too_large", defArgs s_is_too_large, defBody s_is_too_large, defScope s_is_too_large, [], []⟩
def d_alternative_net : He.DefD := ⟨("alternative_net", none), "alternative_net", "alternative_net", defArgs s_alternative_net, defBody s_alternative_net, defScope s_alternative_net, [], []⟩
def d_l_bag : He.DefD := ⟨("_law_bag", none), "_law_bag", "_law_bag", defArgs s_l_bag, defBody s_l_bag, defScope s_l_bag, [], []⟩
def d_l_draw : He.DefD := ⟨("_law_draw", none), "_law_draw", "_law_draw", defArgs s_l_draw, defBody s_l_draw, defScope s_l_draw, [], []⟩
def d_l_alphabet : He.DefD := ⟨("_law_alphabet", none), "_law_alphabet", "_law_alphabet", defArgs s_l_alphabet, defBody s_l_alphabet, defScope s_l_alphabet, [], []⟩
def d_l_letters : He.DefD := ⟨("_law_letters", none), "_law_letters", "_law_letters", defArgs s_l_letters, defBody s_l_letters, defScope s_l_letters, [], []⟩
def d_l_signs : He.DefD := ⟨("_law_signs", none), "_law_signs", "_law_signs", defArgs s_l_signs, defBody s_l_signs, defScope s_l_signs, [], []⟩
def d_l_run : He.DefD := ⟨("_law_run", none), "_law_run", "_law_run", defArgs s_l_run, defBody s_l_run, defScope s_l_run, [], []⟩
def d_l_rows : He.DefD := ⟨("_law_rows", none), "_law_rows", "_law_rows", defArgs s_l_rows, defBody s_l_rows, defScope s_l_rows, [], []⟩
def d_l_kind : He.DefD := ⟨("_law_kind", none), "_law_kind", "_law_kind", defArgs s_l_kind, defBody s_l_kind, defScope s_l_kind, [], []⟩
def d_l_flag : He.DefD := ⟨("_law_flag", none), "_law_flag", "_law_flag", defArgs s_l_flag, defBody s_l_flag, defScope s_l_flag, [], []⟩
def d_l_kept : He.DefD := ⟨("_law_kept", none), "_law_kept", "_law_kept", defArgs s_l_kept, defBody s_l_kept, defScope s_l_kept, [], []⟩
def d_l_fits : He.DefD := ⟨("_law_fits", none), "_law_fits", "_law_fits", defArgs s_l_fits, defBody s_l_fits, defScope s_l_fits, [], []⟩
def d_l_product : He.DefD := ⟨("_law_product", none), "_law_product", "_law_product", defArgs s_l_product, defBody s_l_product, defScope s_l_product, [], []⟩
def d_l_power : He.DefD := ⟨("_law_power", none), "_law_power", "_law_power", defArgs s_l_power, defBody s_l_power, defScope s_l_power, [], []⟩
def d_l_told : He.DefD := ⟨("_law_told", none), "_law_told", "_law_told", defArgs s_l_told, defBody s_l_told, defScope s_l_told, [], []⟩
def d_l_plus : He.DefD := ⟨("_law_plus", none), "_law_plus", "_law_plus", defArgs s_l_plus, defBody s_l_plus, defScope s_l_plus, [], []⟩
def d_l_either : He.DefD := ⟨("_law_either", none), "_law_either", "_law_either", defArgs s_l_either, defBody s_l_either, defScope s_l_either, [], []⟩
def d_l_times : He.DefD := ⟨("_law_times", none), "_law_times", "_law_times", defArgs s_l_times, defBody s_l_times, defScope s_l_times, [], []⟩
def d_l_given : He.DefD := ⟨("_law_given", none), "_law_given", "_law_given", defArgs s_l_given, defBody s_l_given, defScope s_l_given, [], []⟩
def d_l_right : He.DefD := ⟨("_law_right", none), "_law_right", "_law_right", defArgs s_l_right, defBody s_l_right, defScope s_l_right, [], []⟩
def d_l_word_row : He.DefD := ⟨("_law_word_row", none), "_law_word_row", "_law_word_row", defArgs s_l_word_row, defBody s_l_word_row, defScope s_l_word_row, [], []⟩
def d_law : He.DefD := ⟨("law", none), "law", "law", defArgs s_law, defBody s_law, defScope s_law, [], []⟩
def fn : List He.DefD := [d_is_integer, d_is_integer_within, d_is_row, d_BadNumber_init_, d_Net_init_, d_places_by_char, d_place_count, d_run_net, d_renumbered, d_chained, d_side_by_side, d_Signs_init_, d_is_sign_text, d_is_signs, d_signs_of, d_Kind_init_, d_Kind_add_, d_Kind_or_, d_Kind_mul_, d_Kind_rmul_, d_Kind_eq_, d_Kindalternatives, d_are_bounds, d_is_short_text, d_without_repeats, d_is_too_large, d_alternative_net, d_l_bag, d_l_draw, d_l_alphabet, d_l_letters, d_l_signs, d_l_run, d_l_rows, d_l_kind, d_l_flag, d_l_kept, d_l_fits, d_l_product, d_l_power, d_l_told, d_l_plus, d_l_either, d_l_times, d_l_given, d_l_right, d_l_word_row, d_law]
def sd : List Tl.StD := [⟨"Kind", "run", d_Kindrun⟩, ⟨"Kind", "words", d_Kindwords⟩]
def fa : List He.Fa := [.glo "is_integer", .glo "is_integer_within", .glo "is_row", .glo "places_by_char", .glo "place_count", .glo "run_net", .glo "renumbered", .glo "chained", .glo "side_by_side", .glo "is_sign_text", .glo "is_signs", .glo "signs_of", .glo "are_bounds", .glo "is_short_text", .glo "without_repeats", .glo "is_too_large", .glo "alternative_net", .glo "_law_bag", .glo "_law_draw", .glo "_law_alphabet", .glo "_law_letters", .glo "_law_signs", .glo "_law_run", .glo "_law_rows", .glo "_law_kind", .glo "_law_flag", .glo "_law_kept", .glo "_law_fits", .glo "_law_product", .glo "_law_power", .glo "_law_told", .glo "_law_plus", .glo "_law_either", .glo "_law_times", .glo "_law_given", .glo "_law_right", .glo "_law_word_row", .glo "law", .glo "Signs", .cls "Signs", .mkr "Signs", .meth "Signs" "__init__", .noat "Signs" "signs", .glo "Net", .cls "Net", .mkr "Net", .meth "Net" "__init__", .noat "Net" "chars", .noat "Net" "follow", .noat "Net" "exits", .noat "Net" "stands_for", .glo "Kind", .cls "Kind", .mkr "Kind", .meth "Kind" "__init__", .meth "Kind" "__add__", .meth "Kind" "__or__", .meth "Kind" "__mul__", .meth "Kind" "__rmul__", .meth "Kind" "__eq__", .meth "Kind" "alternatives", .noat "Kind" "rows", .noat "Kind" "net", .glo "BadNumber", .meth "BadNumber" "__init__", .noat "BadNumber" "number", .glo "TownError", .glo "BadSigns", .exc "BadSigns", .glo "BadKind", .exc "BadKind", .free "isinstance", .free "int", .free "bool", .free "list", .free "tuple", .free "str", .free "all", .free "any", .free "sum", .free "len", .free "enumerate", .free "range", .free "max", .free "sorted", .int "START" 1, .int "MOST_ALTERNATIVES" 20, .int "MOST_RUNS" 20, .int "MOST_PLACES" 120, .int "MOST_TEXTS" 20, .int "LONGEST_TEXT" 20, .int "HIGHEST_BOUND" 40, .int "MOST_OPERANDS" 9, .str "SIGNS" " !\"#$&'()*+,-./0123456789:;<=>?@ABCDEFGHIJKLMNOPQRSTUVWXYZ[\\]^_`abcdefghijklmnopqrstuvwxyz{|}~"]
def ex (K : PySem.W.Frag) : Bool := ((Tl.seesB K (He.ga K "Signs") && Tl.seesB K (He.ga K "Kind")) && (Tl.apartB K (He.ga K "Signs") (He.ga K "Kind") && Tl.mulB K (He.ga K "Kind"))) && (Tl.errsB K (He.ga K "BadKind") (He.ga K "BadNumber") (He.ga K "TownError") && decide (PySem.W.kitOne K (.ref (He.ga K "Kind")) (.ref (He.ga K "Kind")) = some true))
abbrev R : PySem.W.OpenRow := PySem.W.OpenLaw.row PySem.Challenge.rw_townlines_k04_kind_operators
abbrev hk : PySem.W.Hook := Tl.hookS 5 fa fn sd ex
def ob (s : PySem.W.SharedT) : Tl.AlS := Tl.obsS 5 fa fn sd ex (HandSHeadRun.getT s)
theorem ob_eq (s : PySem.W.SharedT) : ob s = hk.obs s.abs := Tl.obsS_eq (HandSHeadRun.getT_eq s)
abbrev loose : List PySem.Str := (["_wall", "__name__", "is_integer", "is_integer_within", "is_row", "text_order", "TownError", "BadSigns", "BadKind", "BadNumber", "START", "Net", "places_by_char", "place_count", "run_net", "renumbered", "chained", "side_by_side", "together", "places_after", "stand_from", "stand_after", "takes", "SIGNS", "Signs", "is_sign", "is_sign_text", "is_signs", "signs_of", "kept_signs"] : List PySem.Str) ++ (["other_signs", "MOST_ALTERNATIVES", "MOST_RUNS", "MOST_PLACES", "MOST_TEXTS", "LONGEST_TEXT", "HIGHEST_BOUND", "MOST_OPERANDS", "Kind", "are_bounds", "is_short_text", "without_repeats", "is_too_large", "alternative_net", "least_word", "_law_bag", "_law_draw", "_law_alphabet", "_law_letters", "_law_signs", "_law_run", "_law_rows", "_law_kind", "_law_flag", "_law_kept", "_law_fits", "_law_product", "_law_power", "_law_told", "_law_plus"] : List PySem.Str) ++ (["_law_either", "_law_times", "_law_given", "_law_right", "_law_word_row"] : List PySem.Str)
section
open PySem.W PySem.Calls
/-- the state behind the top -/
noncomputable abbrev topEnd (w : World) (os : OsState) : Option SharedT := HandSHeadRun.endF (HandSHeadRun.stepQ (HandSHeadRun.denQ HandSHeadRun.tabQ) R.prog w) 60000 R.prog w os
theorem glue {α β γ δ : Type} {X : Option α} {f : α → β} {g : α → γ} {h : α → δ} {b : β} {c : γ} {d : δ} (h1 : X.map (fun s => (f s, g s)) = some (b, c)) (h2 : X.map h = some d) : X.map (fun s => (f s, g s, h s)) = some (b, c, d) := by
  cases X with
  | none => cases h1
  | some s =>
    have e1 : (f s, g s) = (b, c) := Option.some.inj h1
    have e2 : h s = d := Option.some.inj h2
    show some (f s, g s, h s) = some (b, c, d)
    injection e1 with e3 e4
    rw [e2, e3, e4]
set_option maxHeartbeats 0 in
theorem run1 (w : World) (os : OsState) : (topEnd w os).map (fun s => (HandSHeadRun.looksF R.prog (boot_heap w.params) s.abs, HandSHeadRun.seenQ (view R.prog [70]) loose (importedModules R.prog.main.body) (fun s => xlAt (view R.prog [70]) [] s && recOk R.toRowW.records s) s.abs)) = some (true, openGood (view R.prog [70]) loose) := by
  kernel_rfl
set_option maxHeartbeats 0 in
theorem run2 (w : World) (os : OsState) : (topEnd w os).map ob = some (hk.val w) := by
  kernel_rfl
end
end K04

set_option autoImplicit false
set_option maxErrors 4
namespace K04
open PySem PySem.Spec PyProof.Rows L2
theorem run (w : World) : HandSHeadRun.RunEq R (PySem.W.view R.prog [70]) hk ob 60000 loose w := fun os => glue (run1 w os) (run2 w os)
end K04

/-! Texts as lists of codes: list(text), text * n, join of signs. -/
namespace Tl
open PySem PySem.Spec PyProof.Rows L2
/-- the text of these codes -/
def tx (l : List Nat) : Str := ⟨l.toArray⟩
def cs (z : Str) : List Nat := z.cps.toList
/-- the text of one sign -/
def sg (n : Nat) : Str := ⟨#[n]⟩
theorem cs_tx (l : List Nat) : cs (tx l) = l := rfl
theorem tx_cs (z : Str) : tx (cs z) = z := by
  obtain ⟨⟨l⟩⟩ := z
  rfl
theorem tx_inj {l k : List Nat} (h : tx l = tx k) : l = k := congrArg cs h
theorem tx_eq {l k : List Nat} : tx l = tx k ↔ l = k := ⟨tx_inj, fun e => by rw [e]⟩
theorem len_tx (l : List Nat) : (tx l).length = l.length := rfl
theorem len_cs (z : Str) : (cs z).length = z.length := Array.length_toList
theorem sg_inj {n m : Nat} (h : sg n = sg m) : n = m := by
  have e : [n] = [m] := congrArg cs h
  injection e
theorem tx_app (l k : List Nat) : tx l ++ tx k = tx (l ++ k) := by
  show (⟨l.toArray ++ k.toArray⟩ : Str) = ⟨(l ++ k).toArray⟩
  rw [List.append_toArray]
theorem glue_sg : ∀ (l : List Nat) (a : Array Nat), (l.map sg).foldl (fun acc p => acc ++ (tx []).cps ++ p.cps) a = a ++ l.toArray
  | [], a => by simp
  | n :: l, a => by
    rw [List.map_cons, List.foldl_cons, glue_sg l]
    simp [tx, sg]
theorem join_sg (l : List Nat) : Txt.join (tx []) (l.map sg) = tx l := by
  cases l with
  | nil => rfl
  | cons n l =>
    show (⟨((List.map sg (n :: l)).drop 1).foldl _ _⟩ : Str) = _
    rw [List.map_cons, List.drop_one, List.tail_cons, glue_sg]
    show (⟨#[n] ++ l.toArray⟩ : Str) = ⟨(n :: l).toArray⟩
    congr 1
    simp
theorem sum_sg (l : List Nat) : ((l.map sg).map (·.length)).sum = l.length := by
  induction l with
  | nil => rfl
  | cons n l ih =>
    rw [List.map_cons, List.map_cons, List.sum_cons, ih, List.length_cons]
    show 1 + l.length = l.length + 1
    omega
theorem fold_rep (x : Array Nat) : ∀ (k : Nat) (a : Array Nat), ((List.replicate k x).foldl (· ++ ·) a).toList = a.toList ++ (List.replicate k x.toList).flatten
  | 0, a => by simp
  | k + 1, a => by
    rw [List.replicate_succ, List.foldl_cons, fold_rep x k, List.replicate_succ, List.flatten_cons, Array.toList_append, List.append_assoc]
theorem mul_cs (z : Str) (k : Nat) : cs (Txt.mul z (k : Int)) = (List.replicate k (cs z)).flatten := by
  unfold Txt.mul
  by_cases h0 : (k : Int) < 1
  · rw [if_pos h0]
    have e : k = 0 := by omega
    subst e
    rfl
  · rw [if_neg h0]
    by_cases h1 : ((k : Int) == 1 || z.length == 0) = true
    · rw [if_pos h1]
      rcases Bool.or_eq_true_iff.mp h1 with e | e
      · have e : k = 1 := by
          have := beq_iff_eq.mp e
          omega
        subst e
        show cs z = (List.replicate 1 (cs z)).flatten
        simp [List.replicate]
      · have e1 : cs z = [] := by
          apply List.eq_nil_of_length_eq_zero
          rw [len_cs]
          exact beq_iff_eq.mp e
        rw [e1]
        induction k with
        | zero => rfl
        | succ k ih => simp
    · rw [if_neg h1]
      show ((List.replicate (k : Int).toNat z.cps).foldl (· ++ ·) #[]).toList = _
      rw [fold_rep, Int.toNat_natCast]
      rfl
section
variable {X : Cx}
/-- list(z), z a text -/
theorem call_listTx (hc : X.calm = true) : CallR X (.type "list") (fun vs H Q => ∃ l : List Nat, vs = [.str (tx l)] ∧ l.length ≤ sizeLine ∧ ∀ p, H p = none → Q (.ref p) (upd H p (.lst (l.map fun n => V.str (sg n))))) := by
  intro pins s σ H vs us Q I r h
  obtain ⟨l, rfl, hz, q⟩ := h
  obtain ⟨u, rfl, rx⟩ := vals1 r
  obtain ⟨t, rfl⟩ := rx
  refine call_list_str (I.ok.hd hc) (tx l) t (hn := hz) fun hq tk acc c hk hS hacc => ?_
  have hv : Vals (l.map fun n => V.str (sg n)) acc.toList := by
    have key : ∀ (k : List Nat) (us : List Value), us.length = k.length → (∀ (j : Nat) (v : Value), us[j]? = some v → ∃ (n : Nat) (u : Tok), k[j]? = some n ∧ v = Value.str (sg n) u) → Vals (k.map fun n => V.str (sg n)) us := by
      intro k
      induction k with
      | nil =>
        intro us hl _
        cases us with
        | nil => exact .nil
        | cons _ _ => cases hl
      | cons n k ih =>
        intro us hl h
        cases us with
        | nil => cases hl
        | cons v us =>
          obtain ⟨n', u, e1, e2⟩ := h 0 v rfl
          have e : n = n' := Option.some.inj e1
          subst e
          exact .cons ⟨u, e2⟩ (ih us (Nat.succ.inj hl) fun j v e => h (j + 1) v e)
    refine key l acc.toList (by rw [Array.length_toList]; exact hacc.1) fun j v e => ?_
    obtain ⟨n, u, e1, e2⟩ := hacc.2 j v (by rw [← Array.getElem?_toList]; exact e)
    exact ⟨n, u, by rw [← e1]; simp [tx], e2⟩
  exact ⟨.ref s.heap.objs.size, _, I.laid (t' := tk) hk (Nat.le_refl _) (show ObjOk X.prog X.w _ hq _ (.lst (l.map fun n => V.str (sg n))) from ⟨by rw [List.length_map]; exact hz, acc.toList, c, hv, by rw [Array.toArray_toList]; exact hS⟩), rfl, q _ (I.hok.fresh (Nat.le_refl _))⟩
/-- z * k -/
theorem op_mulTx : OpR X (binaryOp .Mult) (fun x y H Q => ∃ (l : List Nat) (k : Nat), x = .str (tx l) ∧ y = .int k ∧ k ≤ 1000000 ∧ l.length * k ≤ 16777216 ∧ Q (.str (tx (List.replicate k l).flatten)) H) := by
  intro pins s σ H x y v u Q I rx ry h
  obtain ⟨l, k, rfl, rfl, hk, hl, q⟩ := h
  obtain ⟨t, rfl⟩ := rx
  obtain ⟨t', rfl⟩ := ry
  have e : Txt.mul (tx l) (k : Int) = tx (List.replicate k l).flatten := by
    rw [← tx_cs (Txt.mul (tx l) (k : Int)), mul_cs, cs_tx]
  refine PySem.SB.mul (x := tx l) (n := (k : Int)) ⟨?_, fun h1 _ => ?_, fun h1 _ => ?_⟩ fun t2 tk => ?_
  · rw [decide_eq_false (by omega), decide_eq_false (by omega)]
    rfl
  · rw [len_tx]
    have h2 : 1 ≤ (k : Int) := by omega
    have h3 : (l.length : Int) ≤ 16777216 := by
      have : l.length ≤ l.length * k := Nat.le_mul_of_pos_right _ (by omega)
      omega
    have h4 : (16777216 : Int) ≤ (2 ^ 63 - 1) / (k : Int) := by
      apply Int.le_ediv_of_mul_le (by omega)
      omega
    omega
  · unfold Builtin.Str.tooLong
    rw [len_tx, Int.toNat_natCast, sizeLine_eq]
    exact decide_eq_false (by omega)
  · rw [e]
    exact ⟨.str (tx (List.replicate k l).flatten), H, I.tok tk, ⟨t2, rfl⟩, q⟩
end
end Tl

namespace K04
open PySem PySem.Spec PyProof.Rows L2 Tl
/-- a def of no defaults as the top leaves it -/
abbrev FnP (K : PySem.W.Frag) (x qual : Str) (st : Stmt) (f : Addr) (fd : FuncData) : Prop := FunD K x qual (defArgs st) (defBody st) (defScope st) [] [] f fd
/-! ### the bag that is drawn from -/
def bagL (c : Addr) (n m k : Int) : List V := [.ref c, .int n, .int m, .int k]
structure Bag (H : Hp) (b c : Addr) : Prop where
  top : ∃ n m k : Int, H b = some (.lst (bagL c n m k))
  cells : ∃ ns : List Int, H c = some (.lst (ns.map V.int))
theorem Bag.ne {H : Hp} {b c : Addr} (B : Bag H b c) : b ≠ c := fun e => by
  obtain ⟨n, m, k, h1⟩ := B.top
  obtain ⟨ns, h2⟩ := B.cells
  rw [e, h2] at h1
  have h3 := HO.lst.inj (Option.some.inj h1)
  cases ns with
  | nil => cases h3
  | cons x r =>
    injection h3 with h4 _
    cases h4
/-- all but the bag stands as it stood -/
def Kept (b c : Addr) (H H' : Hp) : Prop := ∀ x o, H x = some o → x ≠ b → x ≠ c → H' x = some o
theorem Kept.refl {b c : Addr} {H : Hp} : Kept b c H H := fun _ _ e _ _ => e
theorem Kept.trans {b c : Addr} {H1 H2 H3 : Hp} (h : Kept b c H1 H2) (k : Kept b c H2 H3) : Kept b c H1 H3 := fun x o e nb nc => k x o (h x o e nb nc) nb nc
theorem Kept.updB {b c : Addr} {H H' : Hp} {o : HO} (h : Kept b c H H') : Kept b c H (upd H' b o) := fun x u e nb nc => by
  rw [upd_ne nb]
  exact h x u e nb nc
theorem Kept.updC {b c : Addr} {H H' : Hp} {o : HO} (h : Kept b c H H') : Kept b c H (upd H' c o) := fun x u e nb nc => by
  rw [upd_ne nc]
  exact h x u e nb nc
theorem Kept.new {b c : Addr} {H H' : Hp} {o : HO} {p : Addr} (h : Kept b c H H') (hp : H p = none) : Kept b c H (upd H' p o) := fun x u e nb nc => by
  rw [upd_ne (ne_of_none e hp)]
  exact h x u e nb nc
theorem Bag.updB {H : Hp} {b c : Addr} {n m k : Int} (B : Bag H b c) : Bag (upd H b (.lst (bagL c n m k))) b c := ⟨⟨n, m, k, upd_same⟩, by
  obtain ⟨ns, h⟩ := B.cells
  exact ⟨ns, by rw [upd_ne (Ne.symm B.ne)]; exact h⟩⟩
theorem Bag.new {H : Hp} {b c p : Addr} {o : HO} (B : Bag H b c) (hp : H p = none) : Bag (upd H p o) b c := by
  obtain ⟨n, m, k, h1⟩ := B.top
  obtain ⟨ns, h2⟩ := B.cells
  exact ⟨⟨n, m, k, by rw [upd_ne (ne_of_none h1 hp)]; exact h1⟩, ⟨ns, by rw [upd_ne (ne_of_none h2 hp)]; exact h2⟩⟩
theorem seq0 (n : Nat) : seqIndex? 0 (n + 1) = some 0 := (ixN_seq (n := n + 1) (i := 0) (j := 0) (by unfold ixN; rw [if_pos (by decide), if_pos (by omega)]; rfl)).1
section
variable {P : Program} {w : World} {K : PySem.W.Frag} {mg : Str → Option Value} {base : Heap}
def spDraw : Sp := fun vs H Q _ => ∃ (b c : Addr) (lim : Int), vs = [.ref b, .int lim] ∧ Bag H b c ∧ 0 < lim ∧ lim.natAbs < 2 ^ 200 ∧ ∀ (r : Int) (H' : Hp), 0 ≤ r → r < lim → Bag H' b c → Kept b c H H' → Q (.int r) H'
theorem ok_draw {f : Addr} {fd : FuncData} (F : FnP K "_law_draw" "_law_draw" s_l_draw f fd) (ml : mg "len" = none) (mi : mg "int" = none) : FnOk P w K mg base CX0 1 f fd ["_law_bag_here", "_law_limit"] spDraw := by
  have nd := sc_l_draw.nd
  refine F.ok sc_l_draw (fun vs H Q E h => ?_) (fun cdv A outer s H vs Q E hr h => ?_)
  · obtain ⟨b, c, lim, rfl, _⟩ := h
    rfl
  · obtain ⟨b, c, lim, rfl, B, hl, hw, q⟩ := h
    refine ⟨_, PSs.nox (C8.pss_cut (ps_if (PW.pt (pw_and (pt_cmpR op_eq (pe_ix ix_list (pv 0) pe_int (fun _ _ => rfl)) pe_int (nomark _)) (pw_and1 (pt_cmpR op_gt (pe_callB call_len_seq (by rfl) ml PySem.boot_len (pa_cons (pe_ix ix_list (pv 0) pe_int (fun _ _ => rfl)) pa_nil)) pe_int (nomark _)))))
        (pss_cons (ps_set (i := 2) nd rfl (.inl rfl) (pe_bm PySem.F.plainAttrs_list PySem.F.slot_list_pop PySem.F.type_list_pop mt_popAt (pe_ix ix_list (pv 0) pe_int (fun _ _ => rfl)) (pa_cons pe_int pa_nil)))
        (pss_cons (ps_set (i := 3) nd rfl (.inl rfl) (pe_op op_mul pe_int (pv 2)))
        (C8.pss_cut (ps_if (pt_cmpR op_lt (pv 2) pe_int (nomark _)) (pss_one (ps_set (i := 3) nd rfl (.inl rfl) (pe_op op_sub (pe_op op_mul (pe_un un_neg pe_int) (pv 2)) pe_int))) pss_nil)
        (C8.pss_cut (ps_if (pt_cmpR op_ge (pv 3) (pe_op op_pow pe_int pe_int) (nomark _)) (pss_one (ps_asg (pv 3) (pg_sub (pv 0) pe_int set_list))) pss_nil)
        (pss_one (ps_asg (pe_op op_mod (pe_callTy call_int1 (by rfl) mi (by decide +kernel) (pa_cons (pe_op op_add (pe_op op_add (pe_op op_mul (pe_ix ix_list (pv 0) pe_int (fun _ _ => rfl)) pe_int) (pv 3)) pe_int) pa_nil)) pe_int) (pg_sub (pv 0) pe_int set_list)))))))
        pss_nil)
      (pss_cons (ps_if (pt_cmpR op_gt (pe_ix ix_list (pv 0) pe_int (fun _ _ => rfl)) pe_int (nomark _))
        (pss_cons (ps_set (i := 4) nd rfl (.inl rfl) (pe_op op_mod (pe_callTy call_int1 (by rfl) mi (by decide +kernel) (pa_cons (pe_ix ix_list (pv 0) pe_int (fun _ _ => rfl)) pa_nil)) (pv 1)))
        (pss_cons (ps_asg (pe_op op_fdivW (pe_ix ix_list (pv 0) pe_int (fun _ _ => rfl)) (pv 1)) (pg_sub (pv 0) pe_int set_list))
        (pss_one (ps_ret (pv 4))))) pss_nil)
      (pss_cons (ps_asg (pe_op op_add (pe_ix ix_list (pv 0) pe_int (fun _ _ => rfl)) pe_int) (pg_sub (pv 0) pe_int set_list))
      (pss_cons (ps_set (i := 5) nd rfl (.inl rfl) (pe_op op_mod (pe_callTy call_int1 (by rfl) mi (by decide +kernel) (pa_cons (pe_op op_mul (pe_op op_add (pe_op op_add (pe_ix ix_list (pv 0) pe_int (fun _ _ => rfl)) (pe_op op_mul pe_int (pe_ix ix_list (pv 0) pe_int (fun _ _ => rfl)))) pe_int) pe_int) pa_nil)) pe_int))
      (pss_cons (ps_set (i := 5) nd rfl (.inl rfl) (pe_op op_mod (pe_callTy call_int1 (by rfl) mi (by decide +kernel) (pa_cons (pe_op op_mul (pv 5) (pe_op op_add (pe_op op_fdiv (pv 5) pe_int) pe_int)) pa_nil)) pe_int))
      (pss_cons (ps_set (i := 5) nd rfl (.inl rfl) (pe_op op_mod (pe_callTy call_int1 (by rfl) mi (by decide +kernel) (pa_cons (pe_op op_mul (pv 5) (pe_op op_add (pe_op op_fdiv (pv 5) pe_int) pe_int)) pa_nil)) pe_int))
      (pss_one (ps_ret (pe_op op_mod (pe_callTy call_int1 (by rfl) mi (by decide +kernel) (pa_cons (pe_op op_fdiv (pv 5) pe_int) pa_nil)) (pv 1)))))))))), ?_⟩
    have at0 : ∀ (n m k : Int), atI (bagL c n m k) 0 = some (.ref c) := fun _ _ _ => rfl
    have at1 : ∀ (n m k : Int), atI (bagL c n m k) 1 = some (.int n) := fun _ _ _ => rfl
    have at2 : ∀ (n m k : Int), atI (bagL c n m k) 2 = some (.int m) := fun _ _ _ => rfl
    have at3 : ∀ (n m k : Int), atI (bagL c n m k) 3 = some (.int k) := fun _ _ _ => rfl
    refine ⟨fun σ' H' => ∃ x2 x3 x4 x5, σ' = [some (.ref b), some (.int lim), x2, x3, x4, x5] ∧ Bag H' b c ∧ Kept b c H H', ?_, ?_⟩
    · obtain ⟨n, m, k, hb⟩ := B.top
      obtain ⟨ns, hc⟩ := B.cells
      have nbc := B.ne
      have skip : ∃ x2 x3 x4 x5 : Option V, start ["_law_bag_here", "_law_limit", "_law_cell", "_law_number", "_law_drawn", "_law_one"] [V.ref b, V.int lim] = [some (.ref b), some (.int lim), x2, x3, x4, x5] ∧ Bag H b c ∧ Kept b c H H := ⟨none, none, none, none, rfl, B, Kept.refl⟩
      refine ⟨.ref b, rfl, b, _, 1, _, rfl, rfl, SqL.of hb, at1 n m k, rfl, _, rfl, ite2 (fun e1 => ?_) fun e1 => iteF skip⟩
      refine ⟨.ref b, rfl, b, _, 0, _, rfl, rfl, SqL.of hb, at0 n m k, c, _, rfl, .inl (SqL.of hc), _, _, rfl, rfl, _, rfl, ite2 (fun e2 => ?_) fun e2 => skip⟩
      obtain ⟨x, r, rfl⟩ : ∃ x r, ns = x :: r := by
        cases ns with
        | nil => exact absurd (of_decide_eq_true e2) (by simp)
        | cons x r => exact ⟨x, r, rfl⟩
      -- the first cell is taken
      refine ⟨.ref b, rfl, b, _, 0, _, rfl, rfl, SqL.of hb, at0 n m k, .inl ⟨rfl, _, SqL.of hc⟩, c, _, 0, 0, .int x, rfl, rfl, hc, by decide, by decide, seq0 _, rfl, ?_⟩
      have el : ((x :: r).map V.int).eraseIdx 0 = r.map V.int := rfl
      rw [el]
      generalize hH1 : upd H c (.lst (r.map V.int)) = H1
      have B1 : Bag H1 b c := by
        rw [← hH1]
        exact ⟨⟨n, m, k, by rw [upd_ne nbc]; exact hb⟩, ⟨r, upd_same⟩⟩
      have K1 : Kept b c H H1 := by
        rw [← hH1]
        exact Kept.refl.updC
      -- number = 2 * cell
      refine ⟨_, rfl, _, _, rfl, rfl, .inl (by decide), ?_⟩
      refine ⟨fun σ' H' => ∃ y : Int, σ' = [some (.ref b), some (.int lim), some (.int x), some (.int y), none, none] ∧ H' = H1, ?_, ?_⟩
      · refine ⟨_, rfl, _, _, rfl, rfl, _, rfl, ite2 (fun e3 => ?_) fun e3 => ⟨_, rfl, rfl⟩⟩
        refine ⟨_, rfl, _, rfl, _, _, rfl, rfl, .inl (by decide), _, _, rfl, rfl, ?_⟩
        exact ⟨_, rfl, rfl⟩
      · rintro σ' H' ⟨y, rfl, rfl⟩
        obtain ⟨n1, m1, k1, hb1⟩ := B1.top
        refine ⟨fun σ' H' => σ' = [some (.ref b), some (.int lim), some (.int x), some (.int y), none, none] ∧ Bag H' b c ∧ Kept b c H H', ?_, ?_⟩
        · refine ⟨_, rfl, _, _, rfl, rfl, ⟨by decide, by decide, by decide⟩, _, _, rfl, rfl, _, rfl, ite2 (fun e4 => ?_) fun e4 => ⟨rfl, B1, K1⟩⟩
          exact ⟨_, rfl, .ref b, rfl, b, _, 1, 1, rfl, rfl, hb1, rfl, rfl, B1.updB (n := y) (m := m1) (k := k1), K1.updB⟩
        · rintro σ' H' ⟨rfl, B2, K2⟩
          obtain ⟨n2, m2, k2, hb2⟩ := B2.top
          refine ⟨.ref b, rfl, b, _, 2, _, rfl, rfl, SqL.of hb2, at2 n2 m2 k2, _, _, rfl, rfl, .inr (by decide), _, rfl, _, _, rfl, rfl, _, _, rfl, rfl, .inl ⟨_, rfl, ?_⟩⟩
          refine ⟨_, _, rfl, rfl, (by show (0 : Int) < 2147483647; decide), .ref b, rfl, b, _, 2, 2, rfl, rfl, hb2, rfl, ?_⟩
          exact ⟨_, _, _, _, rfl, B2.updB, K2.updB⟩
    · rintro σ' H1 ⟨x2, x3, x4, x5, rfl, B1, K1⟩
      obtain ⟨n, m, k, hb⟩ := B1.top
      refine ⟨.ref b, rfl, b, _, 1, _, rfl, rfl, SqL.of hb, at1 n m k, _, _, rfl, rfl, _, rfl, ite2 (fun e1 => ?_) fun e1 => ?_⟩
      · refine ⟨.ref b, rfl, b, _, 1, _, rfl, rfl, SqL.of hb, at1 n m k, .inl ⟨_, rfl, ?_⟩⟩
        refine ⟨_, rfl, _, _, rfl, rfl, hl, ?_⟩
        refine ⟨.ref b, rfl, b, _, 1, _, rfl, rfl, SqL.of hb, at1 n m k, _, rfl, _, _, rfl, rfl, wide_div hl hw (by decide) (by decide), ?_⟩
        refine ⟨.ref b, rfl, b, _, 1, 1, rfl, rfl, hb, rfl, _, rfl, ?_⟩
        exact q _ _ (Int.emod_nonneg _ (by omega)) (Int.emod_lt_of_pos _ hl) B1.updB K1.updB
      · refine ⟨.ref b, rfl, b, _, 3, _, rfl, rfl, SqL.of hb, at3 n m k, _, _, rfl, rfl, .ref b, rfl, b, _, 3, 3, rfl, rfl, hb, rfl, ?_⟩
        have B2 : Bag (upd H1 b (.lst (bagL c n m (k + 1)))) b c := B1.updB
        have K2 : Kept b c H (upd H1 b (.lst (bagL c n m (k + 1)))) := K1.updB
        have hb2 : (upd H1 b (.lst (bagL c n m (k + 1)))) b = some (.lst (bagL c n m (k + 1))) := upd_same
        show _
        refine ⟨.ref b, rfl, b, _, 2, _, rfl, rfl, SqL.of hb2, at2 n m (k + 1), .ref b, rfl, b, _, 3, _, rfl, rfl, SqL.of hb2, at3 n m (k + 1), _, _, rfl, rfl, .inl (by decide), _, _, rfl, rfl, _, _, rfl, rfl, _, _, rfl, rfl, .inr (by decide), .inl ⟨_, rfl, ?_⟩⟩
        refine ⟨_, _, rfl, rfl, (by show (0 : Int) < 2147483647; decide), ?_⟩
        have z1 := Int.emod_nonneg ((m + 7919 * (k + 1) + 1) * 48271) (show (2147483647 : Int) ≠ 0 by decide)
        have z2 := Int.emod_lt_of_pos ((m + 7919 * (k + 1) + 1) * 48271) (show (0 : Int) < 2147483647 by decide)
        generalize ((m + 7919 * (k + 1) + 1) * 48271) % 2147483647 = o1 at z1 z2 ⊢
        refine ⟨_, rfl, _, rfl, _, _, rfl, rfl, ⟨by decide, by decide⟩, _, _, rfl, rfl, _, _, rfl, rfl, .inl ⟨by omega, by omega⟩, .inl ⟨_, rfl, ?_⟩⟩
        refine ⟨_, _, rfl, rfl, (by show (0 : Int) < 2147483647; decide), ?_⟩
        have y1 := Int.emod_nonneg (o1 * (o1 / 1009 + 69621)) (show (2147483647 : Int) ≠ 0 by decide)
        have y2 := Int.emod_lt_of_pos (o1 * (o1 / 1009 + 69621)) (show (0 : Int) < 2147483647 by decide)
        generalize (o1 * (o1 / 1009 + 69621)) % 2147483647 = o2 at y1 y2 ⊢
        refine ⟨_, rfl, _, rfl, _, _, rfl, rfl, ⟨by decide, by decide⟩, _, _, rfl, rfl, _, _, rfl, rfl, .inl ⟨by omega, by omega⟩, .inl ⟨_, rfl, ?_⟩⟩
        refine ⟨_, _, rfl, rfl, (by show (0 : Int) < 2147483399; decide), ?_⟩
        refine ⟨_, rfl, _, _, rfl, rfl, ⟨by decide, by decide⟩, .inl ⟨_, rfl, ?_⟩⟩
        refine ⟨_, rfl, _, _, rfl, rfl, hl, ?_⟩
        exact q _ _ (Int.emod_nonneg _ (by omega)) (Int.emod_lt_of_pos _ hl) B2 K2
end
end K04

/-! Comprehensions over the signs of a text. -/
namespace Tl
open PySem PySem.Spec PyProof.Rows L2
theorem upd_over {H : Hp} {p : Addr} {o u : HO} : upd (upd H p o) p u = upd H p u := funext fun x => by
  by_cases e : x = p
  · subst e
    rw [upd_same, upd_same]
  · rw [upd_ne e, upd_ne e, upd_ne e]
/-- [f c for c in text if p c]: i the slot of c, f and p told by the sign's code, the heap as it was -/
theorem lc_tx {te te' : TE} {tt : TT} {σ : L2.St} {H : Hp} {Q : VK} {l : List Nat} {p : Nat → Bool} {f : Nat → V} {i : Nat} (hl : l.length ≤ 1000000)
    (hte : ∀ Q' : VK, Q' (.str (tx l)) H → te σ H Q')
    (hw : ∀ x : V, wipe ((wipe σ [i]).set i (some x)) [i] = wipe σ [i])
    (ht : ∀ (n : Nat) (H2 : Hp) (Qb : Bool → Hp → Prop), n ∈ l → Qb (p n) H2 → tt ((wipe σ [i]).set i (some (.str (sg n)))) H2 Qb)
    (he : ∀ (n : Nat) (H2 : Hp) (Q' : VK), n ∈ l → Q' (f n) H2 → te' ((wipe σ [i]).set i (some (.str (sg n)))) H2 Q')
    (hq : ∀ D, H D = none → Q (.ref D) (upd H D (.lst ((l.filter p).map f)))) : tLc (iStr te) (gName i) tt te' [i] σ H Q := by
  refine hte _ ⟨tx l, rfl, fun D hD => ?_⟩
  refine lc_it (walk_str (z := tx l)) (fun j H' => H' = upd H D (.lst (((l.take j).filter p).map f))) rfl (fun _ _ _ _ => trivial) ?_ ?_
  · rintro j x H1 H' hj e1 ⟨e2, c, hc, rfl⟩
    subst e2
    subst e1
    have hc' : l[j]? = some c := by
      have e : (tx l).cps[j]? = l[j]? := by simp [tx]
      rw [← e]
      exact hc
    have hm : c ∈ l := List.mem_of_getElem? hc'
    have hlen : ((l.take j).filter p).length ≤ 1000000 := Nat.le_trans (List.length_filter_le _ _) (Nat.le_trans (by rw [List.length_take]; exact Nat.min_le_right _ _) hl)
    refine ⟨hw _, ht c _ _ hm ?_⟩
    cases hp : p c with
    | true =>
      refine iteT (he c _ _ hm ⟨_, upd_same, ?_, ?_⟩)
      · rw [List.length_map]
        exact Nat.lt_of_le_of_lt hlen (by rw [sizeLine_eq]; decide)
      · show upd (upd H D _) D _ = _
        rw [upd_over, List.take_add_one, hc', List.filter_append, List.map_append]
        simp [hp]
    | false =>
      refine iteF ?_
      show upd H D _ = upd H D _
      rw [List.take_add_one, hc', List.filter_append]
      simp [hp]
  · rintro H' rfl
    have e : l.take (tx l).cps.size = l := List.take_of_length_le (by simp [tx])
    rw [e]
    exact hq D hD
theorem cb_one {r : List V → Hp → VK → Prop} {ta : TE} {σ : L2.St} {H : Hp} {Q : VK} (h : ta σ H fun x H1 => r [x] H1 Q) : tCB r (tCons ta tNil) σ H Q := h
/-- what sep.join(xs) asks -/
abbrev rJoin (K : PySem.W.Frag) : V → List V → Hp → VK → Prop := fun x xs H Q => ∃ a p, ∃ ys : List Str, x = .str a ∧ xs = [.ref p] ∧ (SqL K H p (ys.map V.str) ∨ SqT K H p (ys.map V.str)) ∧ (ys.map (·.length)).sum + ys.length * a.length ≤ 16777216 ∧ Q (.str (Txt.join a ys)) H
theorem strs_sg (l : List Nat) : (l.map fun n => V.str (sg n)) = (l.map sg).map V.str := by
  rw [List.map_map]
  rfl
theorem join_rd {K : PySem.W.Frag} {p : Addr} {l : List Nat} {H : Hp} {Q : VK} (h : H p = some (.lst (l.map fun n => V.str (sg n)))) (hl : l.length ≤ 1000000) (q : Q (.str (tx l)) H) : rJoin K (.str (tx [])) [.ref p] H Q := by
  refine ⟨tx [], p, l.map sg, rfl, rfl, .inl (SqL.of (by rw [← strs_sg]; exact h)), ?_, ?_⟩
  · rw [sum_sg, len_tx, List.length_map]
    show l.length + l.length * 0 ≤ 16777216
    omega
  · rw [join_sg]
    exact q
/-- ''.join([c for c in text if p c]) -/
theorem join_tx {K : PySem.W.Frag} {z : Str} {te : TE} {tt : TT} {σ : L2.St} {H : Hp} {Q : VK} {l : List Nat} {p : Nat → Bool} {i : Nat} (hz : z = tx []) (hl : l.length ≤ 1000000)
    (hte : ∀ Q' : VK, Q' (.str (tx l)) H → te σ H Q')
    (hw : ∀ x : V, wipe ((wipe σ [i]).set i (some x)) [i] = wipe σ [i])
    (hv : ∀ x : V, ((wipe σ [i]).set i (some x))[i]? = some (some x))
    (ht : ∀ (n : Nat) (H2 : Hp) (Qb : Bool → Hp → Prop), n ∈ l → Qb (p n) H2 → tt ((wipe σ [i]).set i (some (.str (sg n)))) H2 Qb)
    (hq : ∀ H', Same H H' → Q (.str (tx (l.filter p))) H') : tM1 (rJoin K) (tC (.str z)) (tLc (iStr te) (gName i) tt (tVar i) [i]) σ H Q := by
  subst hz
  refine ⟨⟨_, rfl⟩, ?_⟩
  refine lc_tx (p := p) (f := fun n => .str (sg n)) hl hte hw ht (fun n H2 Q' _ q => ⟨_, hv _, q⟩) fun D hD => ?_
  refine join_rd upd_same (Nat.le_trans (List.length_filter_le _ _) hl) (hq _ fun b o e => ?_)
  rw [upd_ne (ne_of_none e hD)]
  exact e
/-- the same, the text made by a call that leaves all as it stood -/
theorem join_txG {K : PySem.W.Frag} {z : Str} {te : TE} {tt : TT} {σ : L2.St} {H : Hp} {Q : VK} {l : List Nat} {p : Nat → Bool} {i : Nat} (hz : z = tx []) (hl : l.length ≤ 1000000)
    (hte : ∀ Q' : VK, (∀ H1, Same H H1 → Q' (.str (tx l)) H1) → te σ H Q')
    (hw : ∀ x : V, wipe ((wipe σ [i]).set i (some x)) [i] = wipe σ [i])
    (hv : ∀ x : V, ((wipe σ [i]).set i (some x))[i]? = some (some x))
    (ht : ∀ (n : Nat) (H2 : Hp) (Qb : Bool → Hp → Prop), n ∈ l → Qb (p n) H2 → tt ((wipe σ [i]).set i (some (.str (sg n)))) H2 Qb)
    (hq : ∀ H', Same H H' → Q (.str (tx (l.filter p))) H') : tM1 (rJoin K) (tC (.str z)) (tLc (iStr te) (gName i) tt (tVar i) [i]) σ H Q := by
  subst hz
  refine ⟨⟨_, rfl⟩, hte _ fun H1 s1 => ?_⟩
  refine lc_tx (Q := fun y H2 => rJoin K (V.str (tx [])) [y] H2 Q) (te := tC (.str (tx l))) (te' := tVar i) (H := H1) (p := p) (f := fun n => .str (sg n)) hl (fun _ q => q) hw ht (fun n H2 Q' _ q => ⟨_, hv _, q⟩) fun D hD => ?_
  refine join_rd upd_same (Nat.le_trans (List.length_filter_le _ _) hl) (hq _ fun b o e => ?_)
  rw [upd_ne (ne_of_none (s1 _ _ e) hD)]
  exact s1 _ _ e
end Tl

namespace K04
open PySem PySem.Spec PyProof.Rows L2 Tl
theorem cut_ints (ns : List Int) (lo hi : Option Int) : ∃ ms : List Int, cutV (ns.map V.int) lo hi = ms.map V.int := by
  refine ⟨(ns.drop (HT.sIx (ns.map V.int).length 0 lo)).take (HT.sIx (ns.map V.int).length (ns.map V.int).length hi - HT.sIx (ns.map V.int).length 0 lo), ?_⟩
  unfold cutV
  rw [← List.map_drop, ← List.map_take]
theorem same_new {H : Hp} {p : Addr} {o : HO} (h : H p = none) : Same H (upd H p o) := fun b x e => by
  rw [upd_ne (ne_of_none e h)]
  exact e
theorem erase_map {α β : Type} (f : α → β) : ∀ (l : List α) (i : Nat), (l.map f).eraseIdx i = (l.eraseIdx i).map f
  | [], _ => rfl
  | _ :: _, 0 => rfl
  | x :: l, i + 1 => congrArg (f x :: ·) (erase_map f l i)
theorem erase_cons {α : Type} : ∀ (l : List α) (i : Nat) (h : i < l.length), List.Perm (l[i] :: l.eraseIdx i) l
  | [], i, h => absurd h (Nat.not_lt_zero i)
  | _ :: _, 0, _ => List.Perm.refl _
  | x :: l, i + 1, h => (List.Perm.swap x _ _).trans ((erase_cons l i (Nat.lt_of_succ_lt_succ h)).cons x)
/-- all the signs, by their codes -/
def alpha : List Nat := (List.range 95).filterMap fun i => if i = 5 then none else some (i + 32)
theorem alpha_len : alpha.length = 94 := by decide +kernel
theorem alpha_nodup : alpha.Nodup := by decide +kernel
theorem line_small {n : Nat} (h : n ≤ 16777216) : n ≤ sizeLine := by
  rw [sizeLine_eq]
  exact h
section
variable {P : Program} {w : World} {K : PySem.W.Frag} {mg : Str → Option Value} {base : Heap}
def spBag (K : PySem.W.Frag) : Sp := fun vs H Q _ => ∃ (a : Addr) (ns : List Int), vs = [.ref a] ∧ SqL K H a (ns.map V.int) ∧ ns.length ≤ 63 ∧ ∀ (b c : Addr) (H' : Hp), H b = none → H c = none → Bag H' b c → Same H H' → Q (.ref b) H'
theorem ok_bag {f : Addr} {fd : FuncData} (F : FnP K "_law_bag" "_law_bag" s_l_bag f fd) (ml : mg "list" = none) : FnOk P w K mg base CX0 1 f fd ["_law_script"] (spBag K) := by
  refine F.ok sc_l_bag (fun vs H Q E h => ?_) (fun cdv A outer s H vs Q E hr h => ?_)
  · obtain ⟨a, ns, rfl, _⟩ := h
    rfl
  · obtain ⟨a, ns, rfl, hS, hlen, q⟩ := h
    refine ⟨_, PSs.nox (pss_one (ps_ret (pe_lst (pa_cons (pe_callTy call_list_of (by rfl) ml (by decide +kernel) (pa_cons (pe_slice sl_list (pv 0) po_none (po_some pe_int)) pa_nil)) (pa_cons pe_int (pa_cons pe_int (pa_cons pe_int pa_nil))))))), ?_⟩
    refine ⟨.ref a, rfl, 63, rfl, a, _, rfl, hS, fun p hp => ?_⟩
    obtain ⟨ms, em⟩ := cut_ints ns none (some 63)
    rw [em]
    refine ⟨p, _, rfl, .inl (SqL.of upd_same), fun c hc => ?_⟩
    refine ⟨by show 4 ≤ sizeLine; exact line_small (by decide), fun b hb => ?_⟩
    have s1 : Same H (upd H p (.lst (ms.map V.int))) := same_new hp
    have s2 := s1.trans (same_new (o := .lst (ms.map V.int)) hc)
    have s3 := s2.trans (same_new (o := .lst [V.ref c, .int 0, .int 0, .int 0]) hb)
    have nbc : c ≠ b := ne_of_none upd_same hb
    refine q b c _ (s2.free hb) (s1.free hc) ⟨⟨0, 0, 0, upd_same⟩, ⟨ms, ?_⟩⟩ s3
    rw [upd_ne nbc, upd_same]
def spAlpha : Sp := fun vs H Q _ => vs = [] ∧ Q (.str (tx alpha)) H
theorem ok_alpha {f : Addr} {fd : FuncData} (F : FnP K "_law_alphabet" "_law_alphabet" s_l_alphabet f fd) : FnOk P w K mg base CX0 1 f fd [] spAlpha := by
  refine F.ok sc_l_alphabet (fun vs H Q E h => ?_) (fun cdv A outer s H vs Q E hr h => ?_)
  · obtain ⟨rfl, _⟩ := h
    rfl
  · obtain ⟨rfl, q⟩ := h
    refine ⟨_, PSs.nox (pss_cons (ps_set (i := 0) sc_l_alphabet.nd rfl (.inl rfl) pe_str) (pss_one (ps_ret (pe_op op_add_str (pv 0) pe_str)))), ?_⟩
    refine ⟨_, rfl, _, _, rfl, rfl, line_small (by decide +kernel), ?_⟩
    have e : ∀ z : Str, z = tx alpha → Q (.str z) H := fun z hz => by
      rw [hz]
      exact q
    exact e _ (by decide +kernel)
def lettersV (ls : List Nat) : List V := ls.map fun n => V.str (sg n)
def spLetters : Sp := fun vs H Q _ => ∃ (b c : Addr) (many : Int), vs = [.ref b, .int many] ∧ Bag H b c ∧ 0 ≤ many ∧ many ≤ 94 ∧
  ∀ (p : Addr) (ls : List Nat) (H' : Hp), (ls.length : Int) = many → ls.Nodup → (∀ x ∈ ls, x ∈ alpha) → H p = none → H' p = some (.lst (lettersV ls)) → Bag H' b c → Kept b c H H' → Q (.ref p) H'
theorem ok_letters {f fA fD : Addr} {fd fdA fdD : FuncData} (F : FnP K "_law_letters" "_law_letters" s_l_letters f fd) (ml : mg "list" = none) (mn : mg "len" = none) (mr : mg "range" = none)
    (GA : FnOk P w K mg base CX0 1 fA fdA [] spAlpha) (gA : mg "_law_alphabet" = some (.ref fA)) (kA : PySem.W.keepIn K (.ref fA) = true) (bA : Binds K fdA [] [])
    (GD : FnOk P w K mg base CX0 1 fD fdD ["_law_bag_here", "_law_limit"] spDraw) (gD : mg "_law_draw" = some (.ref fD)) (kD : PySem.W.keepIn K (.ref fD) = true) (bD : Binds K fdD ["_law_bag_here", "_law_limit"] []) :
    FnOk P w K mg base CX0 2 f fd ["_law_bag_here", "_law_many"] spLetters := by
  have nd := sc_l_letters.nd
  refine F.ok sc_l_letters (fun vs H Q E h => ?_) (fun cdv A outer s H vs Q E hr h => ?_)
  · obtain ⟨b, c, many, rfl, _⟩ := h
    rfl
  · obtain ⟨b, c, many, rfl, B, h0, h94, q⟩ := h
    refine ⟨_, PSs.nox (pss_cons (ps_set (i := 2) nd rfl (.inl rfl) (pe_callTy (call_listTx rfl) (by rfl) ml (by decide +kernel) (pa_cons (pe_call0 GA hr (by rfl) gA kA bA .nil pass0) pa_nil)))
      (pss_cons (ps_set (i := 3) nd rfl (.inl rfl) (pe_lst pa_nil))
      (pss_cons (ps_for PassesOwn.never rfl (pi_range1 rfl mr (pa_cons (pv 1) pa_nil)) (pg_name (i := 4) nd rfl (.inl rfl))
        (pss_one (ps_expr (pe_bm PySem.F.plainAttrs_list PySem.F.slot_list_append PySem.F.type_list_append mt_append (pv 3)
          (pa_cons (pe_bm PySem.F.plainAttrs_list PySem.F.slot_list_pop PySem.F.type_list_pop mt_popAt (pv 2)
            (pa_cons (pe_call GD hr (by rfl) gD kD bD .nil pass0 (pa_cons (pv 0) (pa_cons (pe_callB call_len_seq (by rfl) mn PySem.boot_len (pa_cons (pv 2) pa_nil)) pa_nil))) pa_nil)) pa_nil)))))
      (pss_one (ps_ret (pv 3)))))), ?_⟩
    -- rest, found
    refine ⟨rfl, alpha, rfl, line_small (by rw [alpha_len]; decide), fun r hr0 => ?_⟩
    refine ⟨Nat.zero_le _, fun p hp => ?_⟩
    have s1 : Same H (upd H r (.lst (alpha.map fun n => V.str (sg n)))) := same_new hr0
    have hp0 : H p = none := s1.free hp
    have nrp : r ≠ p := ne_of_none upd_same hp
    refine ⟨_, rfl, many, rfl, by omega, by omega, for_range (n := many.toNat) (fun i σ H' => ∃ (x4 : Option V) (ls rs : List Nat), σ = [some (.ref b), some (.int many), some (.ref r), some (.ref p), x4] ∧ H' r = some (.lst (lettersV rs)) ∧ H' p = some (.lst (lettersV ls)) ∧
      (ls ++ rs).Perm alpha ∧ ls.length = i ∧ Bag H' b c ∧ Kept b c H H') ?_ ?_ ?_⟩
    · refine ⟨none, [], alpha, rfl, ?_, upd_same, List.Perm.refl _, rfl, ((B.new hr0).new hp), (Kept.refl.new hr0).new hp0⟩
      rw [upd_ne nrp, upd_same]
      rfl
    · rintro i σ H1 hi ⟨x4, ls, rs, rfl, h1, h2, pm, el, B1, K1⟩
      have elen : ls.length + rs.length = 94 := by
        rw [← List.length_append, pm.length_eq, alpha_len]
      have hrl : 0 < rs.length := by omega
      refine ⟨.ref p, rfl, .inl ⟨rfl, _, SqL.of h2⟩, .ref r, rfl, .inl ⟨rfl, _, SqL.of h1⟩, .ref b, rfl, .ref r, rfl, r, _, rfl, .inl (SqL.of h1), ?_⟩
      refine ⟨b, c, _, rfl, B1, ?_, ?_, fun d H2 d0 d1 B2 K2 => ?_⟩
      · rw [show (lettersV rs).length = rs.length from List.length_map _]
        omega
      · rw [show (lettersV rs).length = rs.length from List.length_map _]
        show rs.length < 2 ^ 200
        exact Nat.lt_of_le_of_lt (show rs.length ≤ 94 by omega) (by decide)
      · rw [show (lettersV rs).length = rs.length from List.length_map _] at d1
        obtain ⟨n1, m1, k1, hb1⟩ := B.top
        obtain ⟨ns1, hc1⟩ := B.cells
        have nrb : r ≠ b := Ne.symm (ne_of_none hb1 hr0)
        have nrc : r ≠ c := Ne.symm (ne_of_none hc1 hr0)
        have npb : p ≠ b := Ne.symm (ne_of_none hb1 hp0)
        have npc : p ≠ c := Ne.symm (ne_of_none hc1 hp0)
        have g1 := K2 _ _ h1 nrb nrc
        have g2 := K2 _ _ h2 npb npc
        have hj : d.toNat < rs.length := by omega
        have hx : rs[d.toNat]? = some rs[d.toNat] := List.getElem?_eq_getElem hj
        have hgx : (lettersV rs)[d.toNat]? = some (.str (sg rs[d.toNat])) := by
          unfold lettersV
          rw [List.getElem?_map, hx]
          rfl
        have hsq : seqIndex? d (lettersV rs).length = some d.toNat := by
          refine (ixN_seq (n := (lettersV rs).length) (i := d) (j := d.toNat) ?_).1
          unfold ixN lettersV
          rw [List.length_map, if_pos d0, if_pos (by omega)]
        refine ⟨r, _, d, d.toNat, _, rfl, rfl, g1, by omega, by omega, hsq, hgx, ?_⟩
        have ee : (lettersV rs).eraseIdx d.toNat = lettersV (rs.eraseIdx d.toNat) := by
          unfold lettersV
          exact erase_map _ _ _
        rw [ee]
        refine ⟨p, _, _, rfl, rfl, (by rw [upd_ne (Ne.symm nrp)]; exact g2), ?_, ?_⟩
        · rw [show (lettersV ls).length = ls.length from List.length_map _]
          exact small1000 (by omega)
        · have ea : lettersV ls ++ [V.str (sg rs[d.toNat])] = lettersV (ls ++ [rs[d.toNat]]) := by
            unfold lettersV
            rw [List.map_append]
            rfl
          rw [ea]
          refine ⟨_, ls ++ [rs[d.toNat]], rs.eraseIdx d.toNat, rfl, by rw [upd_ne nrp, upd_same], upd_same, ?_, ?_, ?_, ?_⟩
          · rw [List.append_assoc]
            refine List.Perm.trans (List.Perm.append_left ls ?_) pm
            exact erase_cons rs d.toNat hj
          · rw [List.length_append, el]
            rfl
          · obtain ⟨n2, m2, k2, hb2⟩ := B2.top
            obtain ⟨ns2, hc2⟩ := B2.cells
            exact ⟨⟨n2, m2, k2, by rw [upd_ne (Ne.symm npb), upd_ne (Ne.symm nrb)]; exact hb2⟩, ⟨ns2, by rw [upd_ne (Ne.symm npc), upd_ne (Ne.symm nrc)]; exact hc2⟩⟩
          · exact ((K1.trans K2).new hr0).new hp0
    · rintro σ H1 ⟨x4, ls, rs, rfl, h1, h2, pm, el, B1, K1⟩
      refine ⟨_, rfl, q p ls H1 (by omega) ?_ (fun x hx => pm.mem_iff.mp (List.mem_append_left _ hx)) hp0 h2 B1 K1⟩
      exact (List.nodup_append.mp (pm.nodup_iff.mpr alpha_nodup)).1
end
end K04

set_option autoImplicit false
set_option maxErrors 4
namespace K04
open PySem PySem.Spec PyProof.Rows L2 Tl
/-! ### integers, rows, bounds -/
/-- not an integer, as isinstance sees it -/
def NoInt (K : PySem.W.Frag) (H : Hp) (x : V) : Prop := ∃ (t : Value) (b1 b2 : Bool), TyX K H x t ∧ PySem.W.kitOne K t (.type "int") = some b1 ∧ PySem.W.kitOne K t (.type "bool") = some b2 ∧ (b1 && !b2) = false
/-- the names that isinstance needs -/
structure Nms (mg : Str → Option Value) : Prop where
  isi : mg "isinstance" = none
  int : mg "int" = none
  bool : mg "bool" = none
  list : mg "list" = none
  tuple : mg "tuple" = none
  str : mg "str" = none
  all : mg "all" = none
  any : mg "any" = none
  sum : mg "sum" = none
  len : mg "len" = none
  enumerate : mg "enumerate" = none
  range : mg "range" = none
  max : mg "max" = none
  sorted : mg "sorted" = none
section
variable (P : Program) (w : World) (K : PySem.W.Frag) (mg : Str → Option Value) (base : Heap) (CX : CXT)
/-- a def of the top that keeps its promise and can be called by its name -/
def Can (x : Str) (ps : List Str) (k : Nat) (sp : Sp) : Prop := ∃ f fd, FnOk P w K mg base CX k f fd ps sp ∧ mg x = some (.ref f) ∧ PySem.W.keepIn K (.ref f) = true ∧ Binds K fd ps []
end
section
variable {P : Program} {w : World} {K : PySem.W.Frag} {mg : Str → Option Value} {base : Heap}
def spIsInt (K : PySem.W.Frag) : Sp := fun vs H Q _ => ∃ x, vs = [x] ∧ ((∃ n, x = .int n ∧ Q (.bl true) H) ∨ (NoInt K H x ∧ Q (.bl false) H))
theorem ok_is_integer {f : Addr} {fd : FuncData} (F : FnP K "is_integer" "is_integer" s_is_integer f fd) (N : Nms mg) : FnOk P w K mg base CX0 1 f fd ["thing"] (spIsInt K) := by
  refine F.ok sc_is_integer (fun vs H Q E h => ?_) (fun cdv A outer s H vs Q E hr h => ?_)
  · obtain ⟨x, rfl, _⟩ := h
    rfl
  · obtain ⟨x, rfl, h⟩ := h
    refine ⟨_, PSs.nox (pss_one (ps_ret (pe_and (pe_callB call_isi (by rfl) N.isi (by decide +kernel) (pa_cons (pv 0) (pa_cons (pe_bltn (v := .ty "int") (by rfl) N.int (by decide +kernel) rfl) pa_nil)))
      (pe_one (pe_not (pe_callB call_isi (by rfl) N.isi (by decide +kernel) (pa_cons (pv 0) (pa_cons (pe_bltn (v := .ty "bool") (by rfl) N.bool (by decide +kernel) rfl) pa_nil)))))))), ?_⟩
    rcases h with ⟨n, rfl, q⟩ | ⟨⟨t, b1, b2, ty, k1, k2, e⟩, q⟩
    · refine ⟨_, rfl, _, _, _, _, true, rfl, .ty "int", .base (.int _), kit_ty (by decide +kernel), true, rfl, iteT ?_⟩
      exact ⟨_, rfl, _, _, _, _, false, rfl, .ty "bool", .base (.int _), kit_ty (by decide +kernel), false, rfl, q⟩
    · cases b1 with
      | false => exact ⟨_, rfl, _, _, _, _, false, rfl, .ty "int", ty, k1, false, rfl, iteF q⟩
      | true =>
        have e2 : b2 = true := by simpa using e
        subst e2
        exact ⟨_, rfl, _, _, _, _, true, rfl, .ty "int", ty, k1, true, rfl, iteT ⟨_, rfl, _, _, _, _, true, rfl, .ty "bool", ty, k2, true, rfl, q⟩⟩
def spWithin (K : PySem.W.Frag) : Sp := fun vs H Q _ => ∃ (x : V) (lo hi : Int), vs = [x, .int lo, .int hi] ∧ ((∃ n, x = .int n ∧ Q (.bl (decide (lo ≤ n ∧ n ≤ hi))) H) ∨ (NoInt K H x ∧ Q (.bl false) H))
theorem ok_within {f : Addr} {fd : FuncData} (F : FnP K "is_integer_within" "is_integer_within" s_is_integer_within f fd) (I : Can P w K mg base CX0 "is_integer" ["thing"] 1 (spIsInt K)) : FnOk P w K mg base CX0 2 f fd ["thing", "low", "high"] (spWithin K) := by
  obtain ⟨fI, fdI, GI, gI, kI, bI⟩ := I
  refine F.ok sc_is_integer_within (fun vs H Q E h => ?_) (fun cdv A outer s H vs Q E hr h => ?_)
  · obtain ⟨x, lo, hi, rfl, _⟩ := h
    rfl
  · obtain ⟨x, lo, hi, rfl, h⟩ := h
    refine ⟨_, PSs.nox (pss_one (ps_ret (pe_and (pe_call GI hr (by rfl) gI kI bI .nil pass0 (pa_cons (pv 0) pa_nil)) (pe_one (pe_chain op_le op_le (pv 1) (pv 0) (pv 2)))))), ?_⟩
    rcases h with ⟨n, rfl, q⟩ | ⟨no, q⟩
    · refine ⟨_, rfl, _, rfl, .inl ⟨n, rfl, true, rfl, iteT ?_⟩⟩
      refine ⟨_, rfl, _, rfl, _, _, rfl, rfl, _, rfl, ?_⟩
      by_cases h1 : lo ≤ n
      · have e : decide (lo ≤ n ∧ n ≤ hi) = decide (n ≤ hi) := by simp [h1]
        rw [e] at q
        refine (if_pos (decide_eq_true h1)).mpr ?_
        exact ⟨_, rfl, _, _, rfl, rfl, q⟩
      · have e : decide (lo ≤ n ∧ n ≤ hi) = false := by simp [h1]
        rw [e] at q
        refine (if_neg (by simpa using h1)).mpr ?_
        exact q
    · exact ⟨_, rfl, _, rfl, .inr ⟨no, false, rfl, iteF q⟩⟩
def spRow (K : PySem.W.Frag) : Sp := fun vs H Q _ => ∃ (x : V) (t : Value) (b1 b2 : Bool), vs = [x] ∧ TyX K H x t ∧ PySem.W.kitOne K t (.type "list") = some b1 ∧ PySem.W.kitOne K t (.type "tuple") = some b2 ∧ ∀ H', Same H H' → Q (.bl (b1 || b2)) H'
def spPc : Sp := fun vs H Q _ => ∃ (l : Nat) (m : Option Nat), vs = [.int l, m.elim .non fun n => .int (n : Nat)] ∧ Q (.int ((m.getD (Nat.max l 1) : Nat) : Int)) H
theorem ok_place_count {f : Addr} {fd : FuncData} (F : FnP K "place_count" "place_count" s_place_count f fd) (N : Nms mg) : FnOk P w K mg base CX0 1 f fd ["least", "most"] spPc := by
  refine F.ok sc_place_count (fun vs H Q E h => ?_) (fun cdv A outer s H vs Q E hr h => ?_)
  · obtain ⟨l, m, rfl, _⟩ := h
    rfl
  · obtain ⟨l, m, rfl, q⟩ := h
    refine ⟨_, PSs.nox (pss_cons (ps_if (pt_cmpR op_isN (pv 1) pe_non (nomark _)) (pss_one (ps_ret (pe_callB (call_max2 rfl) (by rfl) N.max (by decide +kernel) (pa_cons (pv 0) (pa_cons pe_int pa_nil))))) pss_nil) (pss_one (ps_ret (pv 1)))), ?_⟩
    cases m with
    | none =>
      refine ⟨_, rfl, rfl, _, rfl, iteT ?_⟩
      refine ⟨_, rfl, (l : Int), 1, rfl, ?_⟩
      have e : (if (1 : Int) > (l : Int) then (1 : Int) else (l : Int)) = ((Nat.max l 1 : Nat) : Int) := by
        show _ = ((max l 1 : Nat) : Int)
        split <;> omega
      rw [e]
      exact q
    | some n =>
      refine ⟨_, rfl, rfl, _, rfl, iteF ?_⟩
      exact ⟨_, rfl, q⟩
end
end K04

set_option autoImplicit false
set_option maxErrors 4
/-! The bit operators of natural numbers. -/
namespace Tl
open PySem PySem.Spec PyProof.Rows L2
theorem bitOr_nat (n m : Nat) : Builtin.bitOr (n : Int) (m : Int) = ((n ||| m : Nat) : Int) := by
  have e := bitOr_nn (Int.natCast_nonneg n) (Int.natCast_nonneg m)
  rw [Int.toNat_natCast, Int.toNat_natCast] at e
  exact e
theorem bitAnd_nat (n m : Nat) : Builtin.bitAnd (n : Int) (m : Int) = ((n &&& m : Nat) : Int) := by
  unfold Builtin.bitAnd
  rw [decide_eq_true (Int.natCast_nonneg n), decide_eq_true (Int.natCast_nonneg m)]
  show (((n : Int).toNat &&& (m : Int).toNat : Nat) : Int) = _
  rw [Int.toNat_natCast, Int.toNat_natCast]
/-- n & ~1 -/
theorem bitAnd_even (n : Nat) : Builtin.bitAnd (n : Int) (-2) = ((n / 2 * 2 : Nat) : Int) := by
  unfold Builtin.bitAnd
  rw [decide_eq_true (Int.natCast_nonneg n), show decide ((0 : Int) ≤ -2) = false by decide]
  show (n : Int) - (((n : Int).toNat &&& (Builtin.bitNot (-2)).toNat : Nat) : Int) = _
  rw [Int.toNat_natCast, show (Builtin.bitNot (-2)).toNat = 1 by decide, Nat.and_one_is_mod]
  omega
section
variable {X : Cx}
theorem op_orNat : OpR X (binaryOp .BitOr) (fun x y H Q => ∃ n m : Nat, x = .int n ∧ y = .int m ∧ Q (.int ((n ||| m : Nat) : Int)) H) := fun pins s σ H x y u v Q I rx ry h => by
  obtain ⟨n, m, rfl, rfl, q⟩ := h
  exact op_or pins s σ H _ _ u v Q I rx ry ⟨_, _, rfl, rfl, by dsimp only; rw [bitOr_nat]; exact q⟩
theorem op_andNat : OpR X (binaryOp .BitAnd) (fun x y H Q => ∃ n m : Nat, x = .int n ∧ y = .int m ∧ Q (.int ((n &&& m : Nat) : Int)) H) := fun pins s σ H x y u v Q I rx ry h => by
  obtain ⟨n, m, rfl, rfl, q⟩ := h
  exact op_and pins s σ H _ _ u v Q I rx ry ⟨_, _, rfl, rfl, by dsimp only; rw [bitAnd_nat]; exact q⟩
theorem op_andEven : OpR X (binaryOp .BitAnd) (fun x y H Q => ∃ n : Nat, x = .int n ∧ y = .int (-2) ∧ Q (.int ((n / 2 * 2 : Nat) : Int)) H) := fun pins s σ H x y u v Q I rx ry h => by
  obtain ⟨n, rfl, rfl, q⟩ := h
  exact op_and pins s σ H _ _ u v Q I rx ry ⟨_, _, rfl, rfl, by dsimp only; rw [bitAnd_even]; exact q⟩
theorem op_shlNat : OpR X (binaryOp .LShift) (fun x y H Q => ∃ n k : Nat, x = .int n ∧ y = .int k ∧ n < 2 ^ 4000 ∧ k ≤ 4000 ∧ Q (.int ((n <<< k : Nat) : Int)) H) := fun pins s σ H x y u v Q I rx ry h => by
  obtain ⟨n, k, rfl, rfl, hn, hk, q⟩ := h
  refine op_shlN pins s σ H _ _ u v Q I rx ry ⟨n, k, rfl, rfl, shl_ok (n := 4000) (by rw [Int.natAbs_natCast]; exact hn) (by omega), ?_⟩
  have e : (n : Int) * 2 ^ k = ((n <<< k : Nat) : Int) := by rw [Nat.shiftLeft_eq]; push_cast; rfl
  rw [e]
  exact q
theorem op_shrNat : OpR X (binaryOp .RShift) (fun x y H Q => ∃ n k : Nat, x = .int n ∧ y = .int k ∧ Q (.int ((n >>> k : Nat) : Int)) H) := fun pins s σ H x y u v Q I rx ry h => by
  obtain ⟨n, k, rfl, rfl, q⟩ := h
  refine op_shrN pins s σ H _ _ u v Q I rx ry ⟨n, k, rfl, rfl, ?_⟩
  have e : (n : Int) / 2 ^ k = ((n >>> k : Nat) : Int) := by rw [Nat.shiftRight_eq_div_pow]; push_cast; rfl
  rw [e]
  exact q
theorem op_addNat : OpR X (binaryOp .Add) (fun x y H Q => ∃ n m : Nat, x = .int n ∧ y = .int m ∧ Q (.int ((n + m : Nat) : Int)) H) := op_addN
theorem op_subNat : OpR X (binaryOp .Sub) (fun x y H Q => ∃ n m : Nat, x = .int n ∧ y = .int m ∧ m ≤ n ∧ Q (.int ((n - m : Nat) : Int)) H) := op_subN
end
/-! ### bounds -/
theorem or_lt {a b k : Nat} (ha : a < 2 ^ k) (hb : b < 2 ^ k) : a ||| b < 2 ^ k := Nat.or_lt_two_pow ha hb
theorem shl_lt {a k j : Nat} (ha : a < 2 ^ k) : a <<< j < 2 ^ (k + j) := by
  rw [Nat.shiftLeft_eq, Nat.pow_add]
  exact Nat.mul_lt_mul_of_pos_right ha (Nat.two_pow_pos j)
theorem shr_le (a k : Nat) : a >>> k ≤ a := by
  rw [Nat.shiftRight_eq_div_pow]
  exact Nat.div_le_self _ _
theorem lt_mono {a j k : Nat} (h : a < 2 ^ j) (l : j ≤ k) : a < 2 ^ k := Nat.lt_of_lt_of_le h (Nat.pow_le_pow_right (by decide) l)
end Tl

set_option autoImplicit false
set_option maxErrors 4
namespace K04
open PySem PySem.Spec PyProof.Rows L2 Tl
/-! ### nets, as they are reckoned -/
structure LNet where
  chars : List Str
  follow : List Nat
  exits : Nat
def LNet.Ok (n : LNet) : Prop := n.follow.length = n.chars.length + 1 ∧ n.chars.length ≤ 1000 ∧ (∀ x ∈ n.follow, x < 2 ^ (n.chars.length + 1)) ∧ n.exits < 2 ^ (n.chars.length + 1) ∧ ∀ s ∈ n.chars, s.cps.size ≤ 1000
def pcL (l : Nat) (m : Option Nat) : Nat := m.getD (Nat.max l 1)
def ren (p s : Nat) : Nat := ((p >>> 1) <<< (1 + s)) ||| (p &&& 1)
def runL (sg : Str) (l : Nat) (m : Option Nat) : LNet :=
  ⟨List.replicate (pcL l m) sg, (List.range (pcL l m)).map (fun t => 1 <<< (1 + t)) ++ [m.elim (1 <<< pcL l m) fun _ => 0], (1 <<< (pcL l m + 1)) - (1 <<< l)⟩
theorem ren_lt {p s k : Nat} (h : p < 2 ^ (k + 1)) : ren p s < 2 ^ (k + s + 1) := by
  unfold ren
  have e : p >>> 1 < 2 ^ k := by
    rw [Nat.shiftRight_eq_div_pow]
    exact Nat.div_lt_of_lt_mul (by rw [Nat.pow_succ] at h; omega)
  refine or_lt ?_ ?_
  · have z := shl_lt (j := 1 + s) e
    have e2 : k + (1 + s) = k + s + 1 := by omega
    rw [e2] at z
    exact z
  · refine Nat.lt_of_le_of_lt (Nat.and_le_right) ?_
    exact Nat.lt_of_lt_of_le (show 1 < 2 ^ 1 by decide) (Nat.pow_le_pow_right (by decide) (by omega))
theorem one_shl (k : Nat) : 1 <<< k = 2 ^ k := by rw [Nat.shiftLeft_eq, Nat.one_mul]
theorem pcL_le {l : Nat} {m : Option Nat} (h : ∀ n, m = some n → l ≤ n) : l ≤ pcL l m := by
  cases m with
  | none => exact Nat.le_max_left _ _
  | some n => exact h n rfl
theorem runL_ok {sg : Str} {l : Nat} {m : Option Nat} (hs : sg.cps.size ≤ 1000) (h : ∀ n, m = some n → l ≤ n) (hp : pcL l m ≤ 1000) : (runL sg l m).Ok := by
  unfold LNet.Ok runL
  refine ⟨by simp, by simpa using hp, fun x hx => ?_, ?_, fun s h => by rw [List.eq_of_mem_replicate h]; exact hs⟩
  · simp only [List.length_replicate]
    rcases List.mem_append.mp hx with hx | hx
    · obtain ⟨t, ht, rfl⟩ := List.mem_map.mp hx
      rw [List.mem_range] at ht
      rw [one_shl]
      exact Nat.pow_lt_pow_right (by decide) (by omega)
    · rw [List.mem_singleton.mp hx]
      cases m with
      | none =>
        show 1 <<< pcL l none < _
        rw [one_shl]
        exact Nat.pow_lt_pow_right (by decide) (by omega)
      | some n => exact Nat.two_pow_pos _
  · simp only [List.length_replicate]
    rw [one_shl, one_shl]
    have z : 0 < 2 ^ l := Nat.two_pow_pos _
    have z2 : 0 < 2 ^ (pcL l m + 1) := Nat.two_pow_pos _
    omega
def intsV (xs : List Nat) : List V := xs.map fun x => V.int (x : Nat)
def strsV (xs : List Str) : List V := xs.map V.str
/-! dicts from texts to numbers -/
abbrev SN := List (Str × Nat)
def kvsV (d : SN) : List (Key × V) := d.map fun p => (Sum.inr p.1, V.int (p.2 : Nat))
def getN (d : SN) (s : Str) : Option Nat := (d.find? fun p => decide (p.1 = s)).map (·.2)
def putN (d : SN) (s : Str) (v : Nat) : SN := if (d.any fun p => decide (p.1 = s)) = true then d.map (fun p => if p.1 = s then (p.1, v) else p) else d ++ [(s, v)]
def addN (d : SN) (s : Str) (v : Nat) : SN := putN d s ((getN d s).getD 0 ||| v)
def bySt (cs : List Str) : SN := (List.range cs.length).foldl (fun d i => addN d (cs.getD i default) (1 <<< (1 + i))) []
def spread (c : SN) (s : Str) (v : Nat) : SN := s.cps.toList.foldl (fun c n => addN c ⟨#[n]⟩ v) c
def byCh (d : SN) : SN := d.foldl (fun c p => spread c p.1 p.2) []
def standsFor (cs : List Str) : List (Key × V) := kvsV (byCh (bySt cs))
theorem putN_length (d : SN) (s : Str) (v : Nat) : (putN d s v).length ≤ d.length + 1 := by
  unfold putN
  split <;> simp
theorem kvsV_get (d : SN) (s : Str) : valV (kvsV d) (Sum.inr s) = (getN d s).map fun n => V.int (n : Nat) := by
  unfold valV kvsV getN
  induction d with
  | nil => rfl
  | cons p r ih =>
    rw [List.map_cons, List.find?_cons, List.find?_cons]
    by_cases e : p.1 = s
    · rw [decide_eq_true e, decide_eq_true (show (Sum.inr p.1 : Key) = Sum.inr s by rw [e])]
      rfl
    · rw [decide_eq_false e, decide_eq_false (show ¬ (Sum.inr p.1 : Key) = Sum.inr s from fun z => e (Sum.inr.inj z))]
      exact ih
theorem kvsV_put (d : SN) (s : Str) (v : Nat) : putK (kvsV d) (Sum.inr s) (.int (v : Nat)) = kvsV (putN d s v) := by
  have ea : ((kvsV d).any fun kv => decide (kv.1 = Sum.inr s)) = d.any fun p => decide (p.1 = s) := by
    unfold kvsV
    rw [List.any_map]
    congr 1
    funext p
    show decide ((Sum.inr p.1 : Key) = Sum.inr s) = decide (p.1 = s)
    rw [decide_eq_decide]
    exact ⟨fun z => Sum.inr.inj z, fun z => by rw [z]⟩
  unfold putK putN
  rw [ea]
  split
  · unfold kvsV
    rw [List.map_map, List.map_map]
    refine List.map_congr_left fun p _ => ?_
    by_cases e : p.1 = s
    · simp [e]
    · have e2 : ¬ (Sum.inr p.1 : Key) = Sum.inr s := fun z => e (Sum.inr.inj z)
      simp [e]
  · unfold kvsV
    rw [List.map_append]
    rfl
/-- the net n stands at r -/
def NetAt (NC : Addr) (H : Hp) (r : Addr) (n : LNet) : Prop := ∃ dx c f d, H r = some (.ins NC dx [("chars", .ref c), ("follow", .ref f), ("exits", .int (n.exits : Nat)), ("stands_for", .ref d)]) ∧ H c = some (.lst (strsV n.chars)) ∧ H f = some (.lst (intsV n.follow)) ∧ H d = some (.dK (standsFor n.chars))
theorem NetAt.same {NC : Addr} {H H' : Hp} {r : Addr} {n : LNet} (h : NetAt NC H r n) (s : Same H H') : NetAt NC H' r n := by
  obtain ⟨dx, c, f, d, h1, h2, h3, h4⟩ := h
  exact ⟨dx, c, f, d, s _ _ h1, s _ _ h2, s _ _ h3, s _ _ h4⟩
/-- the net n has been made at r over the lists at c and f -/
def NetNew (NC : Addr) (H H' : Hp) (r c f : Addr) (n : LNet) : Prop := ∃ dx d, H d = none ∧ H' r = some (.ins NC dx [("chars", .ref c), ("follow", .ref f), ("exits", .int (n.exits : Nat)), ("stands_for", .ref d)]) ∧ H' c = some (.lst (strsV n.chars)) ∧ H' f = some (.lst (intsV n.follow)) ∧ H' d = some (.dK (standsFor n.chars))
theorem NetNew.at {NC : Addr} {H H' : Hp} {r c f : Addr} {n : LNet} (h : NetNew NC H H' r c f n) : NetAt NC H' r n := by
  obtain ⟨dx, d, _, h1, h2, h3, h4⟩ := h
  exact ⟨dx, c, f, d, h1, h2, h3, h4⟩
theorem NetNew.of {NC : Addr} {H0 H H' : Hp} {r c f : Addr} {n : LNet} (s : Same H0 H) (h : NetNew NC H H' r c f n) : NetNew NC H0 H' r c f n := by
  obtain ⟨dx, d, h0, h⟩ := h
  exact ⟨dx, d, s.free h0, h⟩
/-- a new net, beside a heap in which all stands as it stood -/
abbrev GivesNet (NC : Addr) (H : Hp) (Q : VK) (n : LNet) : Prop := ∀ r c f H', Same H H' → H r = none → H c = none → H f = none → NetNew NC H H' r c f n → Q (.ref r) H'
/-- all of it stays when what was there before it is changed -/
theorem NetNew.put {NC : Addr} {H H' : Hp} {r c f D : Addr} {n : LNet} {o u : HO} (h : NetNew NC H H' r c f n) (hr : H r = none) (hc : H c = none) (hf : H f = none) (hD : H D = some o) : NetAt NC (upd H' D u) r n := by
  obtain ⟨dx, d, h0, h1, h2, h3, h4⟩ := h
  have ne : ∀ {x : Addr}, H x = none → x ≠ D := fun {x} z e => by
    rw [e, hD] at z
    cases z
  exact ⟨dx, c, f, d, by rw [upd_ne (ne hr)]; exact h1, by rw [upd_ne (ne hc)]; exact h2, by rw [upd_ne (ne hf)]; exact h3, by rw [upd_ne (ne h0)]; exact h4⟩
section
variable {P : Program} {w : World} {K : PySem.W.Frag} {mg : Str → Option Value} {base : Heap}
def spRen : Sp := fun vs H Q _ => ∃ p s : Nat, vs = [.int (p : Nat), .int (s : Nat)] ∧ p < 2 ^ 2000 ∧ s ≤ 2000 ∧ Q (.int (ren p s : Nat)) H
theorem ok_ren {f : Addr} {fd : FuncData} (F : FnP K "renumbered" "renumbered" s_renumbered f fd) (gS : ∃ t, mg "START" = some (.int 1 t)) : FnOk P w K mg base CX0 1 f fd ["places", "shift"] spRen := by
  obtain ⟨t, gS⟩ := gS
  refine F.ok sc_renumbered (fun vs H Q E h => ?_) (fun cdv A outer s H vs Q E hr h => ?_)
  · obtain ⟨p, s, rfl, _⟩ := h
    rfl
  · obtain ⟨p, s, rfl, hp, hs, q⟩ := h
    refine ⟨_, PSs.nox (pss_one (ps_ret (pe_op op_orNat (pe_op op_shlNat (pe_op op_shrNat (pv 0) pe_int) (pe_op op_addNat pe_int (pv 1))) (pe_op op_andNat (pv 0) (pe_glob (v := .int 1) (by rfl) gS ⟨_, rfl⟩))))), ?_⟩
    refine ⟨_, rfl, p, 1, rfl, rfl, _, rfl, 1, s, rfl, rfl, p >>> 1, 1 + s, rfl, rfl, ?_, by omega, _, rfl, p, 1, rfl, rfl, _, _, rfl, rfl, q⟩
    exact Nat.lt_of_le_of_lt (shr_le _ _) (lt_mono hp (by decide))
/-- how Net(..) is made -/
def CanNet (P : Program) (w : World) (K : PySem.W.Frag) (mg : Str → Option Value) (base : Heap) (NC : Addr) (k : Nat) : Prop := ∃ f fd, Mk K NC f ∧ mg "Net" = some (.ref NC) ∧ Binds K fd ["self", "chars", "follow", "exits"] [] ∧
  FnOk P w K mg base CX0 k f fd ["self", "chars", "follow", "exits"] (fun vs H Q _ => ∃ (p dx c f : Addr) (n : LNet), vs = [.ref p, .ref c, .ref f, .int (n.exits : Nat)] ∧ n.Ok ∧ H p = some (.ins NC dx []) ∧ H c = some (.lst (strsV n.chars)) ∧ H f = some (.lst (intsV n.follow)) ∧
    ∀ H', (∀ x o, H x = some o → x ≠ p → H' x = some o) → NetNew NC H H' p c f n → Q .non H')
theorem make_net {NC c f : Addr} {H : Hp} {Q : VK} {n : LNet} (ok : n.Ok) (hc : H c = some (.lst (strsV n.chars))) (hf : H f = some (.lst (intsV n.follow))) (q : ∀ r H', Same H H' → H r = none → NetNew NC H H' r c f n → Q (.ref r) H') : ∀ x dx, H x = none → H dx = none → dx ≠ x →
    (fun (vs : List V) (H : Hp) (Q : VK) (_ : XK) => ∃ (p dx c f : Addr) (n : LNet), vs = [.ref p, .ref c, .ref f, .int (n.exits : Nat)] ∧ n.Ok ∧ H p = some (.ins NC dx []) ∧ H c = some (.lst (strsV n.chars)) ∧ H f = some (.lst (intsV n.follow)) ∧
      ∀ H', (∀ x o, H x = some o → x ≠ p → H' x = some o) → NetNew NC H H' p c f n → Q .non H') (.ref x :: ([.ref c, .ref f, .int (n.exits : Nat)] ++ [])) (upd (upd H dx (.own x)) x (.ins NC dx [])) (fun v H2 => v = .non ∧ Q (.ref x) H2) E0 := by
  intro x dx hx hdx ne
  have far : ∀ {b : Addr} {o : HO}, H b = some o → (upd (upd H dx (.own x)) x (.ins NC dx [])) b = some o := fun {b o} e => by
    rw [upd_ne (ne_of_none e hx), upd_ne (ne_of_none e hdx)]
    exact e
  exact ⟨x, dx, c, f, n, rfl, ok, upd_same, far hc, far hf, fun H' k e => ⟨rfl, q x H' (fun b o z => k b o (far z) (ne_of_none z hx)) hx (e.of fun b o z => far z)⟩⟩
end
end K04

set_option autoImplicit false
/-! Steps through a reading. -/
namespace Tl
open PySem PySem.Spec PyProof.Rows L2
theorem asg_go {te : TE} {g : TG} {D : Ends} {σ : L2.St} {H : Hp} (h : te σ H fun x H1 => g x σ H1 D.nx) : tAsg te g D σ H := h
theorem seq_go {t u : TS} {D : Ends} {σ : L2.St} {H : Hp} (h : t { D with nx := u D } σ H) : tSeq t u D σ H := h
theorem name_go {i : Nat} {v : V} {σ : L2.St} {H : Hp} {Q : L2.St → Hp → Prop} (h : Q (σ.set i (some v)) H) : gName i v σ H Q := h
theorem yes_keep {σ : L2.St} {H : Hp} {Ya Na : Hp → Prop} (h : Ya H) : tYes σ H (fun b H3 => if b = true then Ya H3 else Na H3) := by
  show if true = true then Ya H else Na H
  rw [if_pos rfl]
  exact h
theorem rep_flat {α : Type} (x : α) : ∀ n : Nat, (List.replicate n [x]).flatten = List.replicate n x
  | 0 => rfl
  | n + 1 => by rw [List.replicate_succ, List.flatten_cons, rep_flat x n, List.replicate_succ]; rfl
theorem te_go {t : TE} {σ : L2.St} {H : Hp} {Q : VK} (v : V) (h : ∀ Q' : VK, Q' v H → t σ H Q') (q : Q v H) : t σ H Q := h Q q
/-- an int as a test -/
theorem tru_int {X : Cx} : TruR X (fun x H Q => ∃ i, x = .int i ∧ Q (i != 0) H) := fun pins s σ H x v Q I r h => by
  obtain ⟨i, rfl, q⟩ := h
  exact tru_ok pins s σ H _ v Q I r ⟨_, rfl, q⟩
theorem pt_int {X : Cx} {a : Expr} {ta : TE} (ha : PE X a ta) (he : ∀ whole, isTrue a X.env whole = (do let v ← whole; standAt a.pos; holding [v] (truthy v)) := by intro _; rfl) : PT X a (fun σ H Q => ta σ H fun x H' => ∃ i, x = .int i ∧ Q (i != 0) H') := pt_truthR ha tru_int he
end Tl

set_option autoImplicit false
set_option maxErrors 4
namespace K04
open PySem PySem.Spec PyProof.Rows L2 Tl
abbrev mostV (m : Option Nat) : V := m.elim .non fun n => .int (n : Nat)
section
variable {P : Program} {w : World} {K : PySem.W.Frag} {mg : Str → Option Value} {base : Heap} {NC : Addr}
def spRunNet (NC : Addr) : Sp := fun vs H Q _ => ∃ (sg : Str) (l : Nat) (m : Option Nat), vs = [.str sg, .int (l : Nat), mostV m] ∧ sg.cps.size ≤ 1000 ∧ (∀ n, m = some n → l ≤ n) ∧ pcL l m ≤ 500 ∧ GivesNet NC H Q (runL sg l m)
theorem ok_run_net {k : Nat} {f : Addr} {fd : FuncData} (F : FnP K "run_net" "run_net" s_run_net f fd) (N : Nms mg) (C : Can P w K mg base CX0 "place_count" ["least", "most"] 1 spPc) (M : CanNet P w K mg base NC k) : FnOk P w K mg base CX0 (k + 2) f fd ["signs", "least", "most"] (spRunNet NC) := by
  obtain ⟨fC, fdC, GC, gC, kC, bC⟩ := C
  obtain ⟨fM, fdM, MM, gM, bM, GM⟩ := M
  have nd := sc_run_net.nd
  refine F.ok sc_run_net (fun vs H Q E h => ?_) (fun cdv A outer s H vs Q E hr h => ?_)
  · obtain ⟨sg, l, m, rfl, _⟩ := h
    rfl
  · obtain ⟨sg, l, m, rfl, hsg, hl, hp, q⟩ := h
    refine ⟨_, PSs.nox (pss_cons (ps_set (i := 3) nd rfl (.inl rfl) (pe_call GC (hr.mono (by omega)) (by rfl) gC kC bC .nil pass0 (pa_cons (pv 1) (pa_cons (pv 2) pa_nil))))
      (pss_cons (ps_set (i := 4) nd rfl (.inl rfl) (pe_ifExp (pt_cmpR op_isN (pv 2) pe_non (nomark _)) (pe_op op_shlNat pe_int (pv 3)) pe_int))
      (pss_cons (ps_set (i := 6) nd rfl (.inl rfl) (pe_op op_cat (pe_lc (own := [("taken", 5)]) (g := gName 5) (tt := tYes) rfl nd (pi_range1 rfl N.range (pa_cons (pv 3) pa_nil)) (blkOk_by (N := ["signs", "least", "most", "count", "after_last", "taken", "follow", "exits"]) (sc := defScope s_run_net) (by decide +kernel)) (fun _ _ _ _ _ => pg_name (i := 5) nd rfl (Or.inl rfl)) (fun _ _ _ _ _ => pts_nil)
          (fun _ _ _ _ _ => pe_op op_shlNat pe_int (pe_op op_addNat pe_int (pv 5)))) (pe_lst (pa_cons (pv 4) pa_nil))))
      (pss_cons (ps_set (i := 7) nd rfl (.inl rfl) (pe_op op_subNat (pe_op op_shlNat pe_int (pe_op op_addNat (pv 3) pe_int)) (pe_op op_shlNat pe_int (pv 1))))
      (pss_one (ps_ret (pe_make MM GM hr (by rfl) gM bM .nil pass0 (pa_cons (pe_op op_rep (pe_lst (pa_cons (pv 0) pa_nil)) (pv 3)) (pa_cons (pv 6) (pa_cons (pv 7) pa_nil)))))))))), ?_⟩
    refine ⟨_, rfl, _, rfl, l, m, rfl, ?_⟩
    refine name_go ?_
    dsimp only
    have ec : m.getD (Nat.max l 1) = pcL l m := rfl
    rw [ec]
    have lc := pcL_le hl
    refine seq_go (asg_go ?_)
    have wide : 1 < 2 ^ 4000 := Nat.lt_of_lt_of_le (show 1 < 2 ^ 1 by decide) (Nat.pow_le_pow_right (by decide) (by decide))
    refine te_go (.int ((m.elim (1 <<< pcL l m) fun _ => 0 : Nat) : Int)) (fun Q' z => ?_) ?_
    · cases m with
      | none => exact ⟨_, rfl, rfl, _, rfl, iteT ⟨_, rfl, 1, pcL l none, rfl, rfl, wide, by omega, z⟩⟩
      | some n => exact ⟨_, rfl, rfl, _, rfl, iteF z⟩
    refine name_go ?_
    dsimp only
    refine seq_go (asg_go ?_)
    have tn : ((pcL l m : Nat) : Int).toNat = pcL l m := Int.toNat_natCast _
    refine ⟨_, rfl, ((pcL l m : Nat) : Int), rfl, by omega, by omega, fun D hD => ?_⟩
    refine lc_range (lo := 0) (n := ((pcL l m : Nat) : Int).toNat) (fun i H' => H' D = some (.lst (intsV ((List.range i).map fun t => 1 <<< (1 + t)))) ∧ Same H H') ⟨upd_same, same_new hD⟩ ?_ ?_
    · rintro i H' hi ⟨e, sm⟩
      rw [tn] at hi
      refine ⟨rfl, yes_keep ?_⟩
      have ei : (0 : Int) + (i : Int) = ((i : Nat) : Int) := Int.zero_add _
      rw [ei]
      refine ⟨_, rfl, 1, i, rfl, rfl, 1, 1 + i, rfl, rfl, wide, by omega, _, e, ?_, ?_, ?_⟩
      · unfold intsV
        rw [List.length_map, List.length_map, List.length_range]
        exact small1000 (by omega)
      · rw [upd_same, List.range_succ]
        unfold intsV
        rw [List.map_append, List.map_append]
        rfl
      · intro x u z
        rw [upd_ne (ne_of_none z hD)]
        exact sm _ _ z
    · rintro H1 ⟨e1, s1⟩
      rw [tn] at e1
      have r1 := runL_ok (sg := sg) hsg hl (Nat.le_trans hp (by decide))
      refine ⟨_, rfl, line_small (by show 1 ≤ 16777216; decide), fun b hb => ?_⟩
      have s2 := s1.trans (same_new (o := .lst [.int ((m.elim (1 <<< pcL l m) fun _ => 0 : Nat) : Int)]) hb)
      refine ⟨D, b, _, [.int ((m.elim (1 <<< pcL l m) fun _ => 0 : Nat) : Int)], rfl, rfl, (same_new hb) _ _ e1, upd_same, ?_, fun fo hfo => ?_⟩
      · unfold intsV
        rw [List.length_map, List.length_map, List.length_range]
        exact line_small (by show pcL l m + 1 ≤ 16777216; omega)
      have ef : intsV ((List.range (pcL l m)).map fun t => 1 <<< (1 + t)) ++ [.int ((m.elim (1 <<< pcL l m) fun _ => 0 : Nat) : Int)] = intsV (runL sg l m).follow := by
        unfold intsV runL
        rw [List.map_append]
        rfl
      rw [ef]
      have s3 := s2.trans (same_new (o := .lst (intsV (runL sg l m).follow)) hfo)
      refine name_go ?_
      dsimp only
      refine seq_go (asg_go ?_)
      have le : 1 <<< l ≤ 1 <<< (pcL l m + 1) := by
        rw [one_shl, one_shl]
        exact Nat.pow_le_pow_right (by decide) (by omega)
      refine ⟨_, rfl, pcL l m, 1, rfl, rfl, 1, pcL l m + 1, rfl, rfl, wide, by omega, _, rfl, 1, l, rfl, rfl, wide, by omega, _, _, rfl, rfl, le, ?_⟩
      refine name_go ?_
      dsimp only
      refine ⟨_, rfl, line_small (by show 1 ≤ 16777216; decide), fun b2 hb2 => ?_⟩
      refine ⟨_, rfl, b2, ((pcL l m : Nat) : Int), _, rfl, rfl, upd_same, by omega, by omega, ?_, fun c hc => ?_⟩
      · rw [tn]
        exact line_small (by show 1 * pcL l m ≤ 16777216; omega)
      have ec2 : (List.replicate ((pcL l m : Nat) : Int).toNat [V.str sg]).flatten = strsV (runL sg l m).chars := by
        rw [tn, rep_flat]
        unfold strsV runL
        rw [List.map_replicate]
      rw [ec2]
      have k1 := same_new (o := .lst [V.str sg]) hb2
      have k2 := same_new (o := .lst (strsV (runL sg l m).chars)) hc
      refine ⟨_, rfl, _, rfl, ?_⟩
      exact make_net (n := runL sg l m) r1 upd_same (k2 _ _ (k1 _ _ upd_same)) fun r H' sm hr0 at_ => q r c fo H' (((s3.trans k1).trans k2).trans sm) (((s3.trans k1).trans k2).free hr0) ((s3.trans k1).free hc) (s2.free hfo) (at_.of ((s3.trans k1).trans k2))
end
end K04

set_option autoImplicit false
set_option maxErrors 4
namespace K04
open PySem PySem.Spec PyProof.Rows L2 Tl
/-! ### nets one after the other -/
def joinF (fo : List Nat) (ex first : Nat) : List Nat := (List.range fo.length).map fun j => if (ex >>> j) &&& 1 = 0 then fo.getD j 0 else fo.getD j 0 ||| first
def chainStep (a n : LNet) : LNet :=
  ⟨a.chars ++ n.chars, joinF a.follow a.exits (ren (n.follow.getD 0 0) a.chars.length) ++ (n.follow.drop 1).map (fun x => ren x a.chars.length), ren (n.exits / 2 * 2) a.chars.length ||| (if n.exits &&& 1 = 0 then 0 else a.exits)⟩
def chain0 : LNet := ⟨[], [0], 1⟩
def chainL (ns : List LNet) : LNet := ns.foldl chainStep chain0
theorem chain0_ok : chain0.Ok := ⟨rfl, Nat.zero_le _, fun x hx => by rw [List.mem_singleton.mp hx]; decide, by decide, fun s h => by cases h⟩
theorem getD_lt {fo : List Nat} {k j : Nat} (h : ∀ x ∈ fo, x < 2 ^ k) : fo.getD j 0 < 2 ^ k := by
  by_cases z : j < fo.length
  · rw [List.getD_eq_getElem?_getD, List.getElem?_eq_getElem z]
    exact h _ (List.getElem_mem z)
  · rw [List.getD_eq_getElem?_getD, List.getElem?_eq_none (Nat.not_lt.mp z)]
    exact Nat.two_pow_pos _
theorem chainStep_ok {a n : LNet} (ha : a.Ok) (hn : n.Ok) (small : a.chars.length + n.chars.length ≤ 1000) : (chainStep a n).Ok := by
  obtain ⟨a1, a2, a3, a4, a5⟩ := ha
  obtain ⟨n1, n2, n3, n4, n5⟩ := hn
  have up : ∀ {x : Nat}, x < 2 ^ (n.chars.length + 1) → ren x a.chars.length < 2 ^ (a.chars.length + n.chars.length + 1) := fun {x} h => by
    have z := ren_lt (s := a.chars.length) h
    rw [show n.chars.length + a.chars.length + 1 = a.chars.length + n.chars.length + 1 by omega] at z
    exact z
  have wd : ∀ {x : Nat}, x < 2 ^ (a.chars.length + 1) → x < 2 ^ (a.chars.length + n.chars.length + 1) := fun {x} h => lt_mono h (by omega)
  unfold LNet.Ok chainStep joinF
  simp only [List.length_append, List.length_map, List.length_range, List.length_drop]
  refine ⟨by omega, small, fun x hx => ?_, ?_, fun s h => (List.mem_append.mp h).elim (a5 s) (n5 s)⟩
  · rcases List.mem_append.mp hx with hx | hx
    · obtain ⟨j, _, rfl⟩ := List.mem_map.mp hx
      split
      · exact wd (getD_lt a3)
      · exact or_lt (wd (getD_lt a3)) (up (getD_lt n3))
    · obtain ⟨y, hy, rfl⟩ := List.mem_map.mp hx
      exact up (n3 y (List.mem_of_mem_drop hy))
  · refine or_lt (up ?_) ?_
    · omega
    · split
      · exact Nat.two_pow_pos _
      · exact wd a4
def charsOf (ns : List LNet) : Nat := (ns.map fun n => n.chars.length).sum
theorem cut_one {xs : List V} : cutV xs (some 1) none = xs.drop 1 := by
  unfold cutV
  cases xs with
  | nil => rfl
  | cons x r =>
    have e1 : HT.sIx (x :: r).length 0 (some 1) = 1 := by
      unfold HT.sIx
      simp
    have e2 : HT.sIx (x :: r).length (x :: r).length none = (x :: r).length := by
      unfold HT.sIx
      simp
    rw [e1, e2]
    exact List.take_of_length_le (by simp)
theorem intsV_drop (xs : List Nat) (n : Nat) : (intsV xs).drop n = intsV (xs.drop n) := by
  unfold intsV
  rw [List.map_drop]
theorem intsV_app (xs ys : List Nat) : intsV xs ++ intsV ys = intsV (xs ++ ys) := by
  unfold intsV
  rw [List.map_append]
theorem intsV_len (xs : List Nat) : (intsV xs).length = xs.length := List.length_map _
theorem intsV_get {xs : List Nat} {i : Nat} (h : i < xs.length) : (intsV xs)[i]? = some (.int (xs.getD i 0 : Nat)) := by
  unfold intsV
  rw [List.getElem?_map, List.getD_eq_getElem?_getD, List.getElem?_eq_getElem h]
  rfl
end K04

set_option autoImplicit false
set_option maxErrors 4
namespace K04
open PySem PySem.Spec PyProof.Rows L2 Tl
/-- what is asked of the class Net -/
structure NetC (K : PySem.W.Frag) (NC : Addr) : Prop where
  cl : Cls K NC
  n1 : NoAttr K NC "chars"
  n2 : NoAttr K NC "follow"
  n3 : NoAttr K NC "exits"
  n4 : NoAttr K NC "stands_for"
abbrev Prs := List (Addr × LNet)
/-- nets in a list -/
def NetsAt (NC : Addr) (H : Hp) (ps : Prs) : Prop := ∀ x ∈ ps, NetAt NC H x.1 x.2 ∧ x.2.Ok
theorem NetsAt.same {NC : Addr} {H H' : Hp} {ps : Prs} (h : NetsAt NC H ps) (s : Same H H') : NetsAt NC H' ps := fun x hx => ⟨(h x hx).1.same s, (h x hx).2⟩
def refsP (ps : Prs) : List V := ps.map fun x => V.ref x.1
def netsP (ps : Prs) : List LNet := ps.map (·.2)
def spNets (NC : Addr) (f : List LNet → LNet) : Sp := fun vs H Q _ => ∃ (l : Addr) (ps : Prs), vs = [.ref l] ∧ H l = some (.lst (refsP ps)) ∧ NetsAt NC H ps ∧ charsOf (netsP ps) ≤ 500 ∧ GivesNet NC H Q (f (netsP ps))
abbrev netF (c f d : Addr) (e : Nat) : List (Str × V) := [("chars", .ref c), ("follow", .ref f), ("exits", .int (e : Nat)), ("stands_for", .ref d)]
theorem lk_ne {f g : Str} {v : V} {r : List (Str × V)} (h : (f == g) = false) : ((g, v) :: r).lookup f = r.lookup f := by
  rw [List.lookup, h]
theorem lk_hit {f : Str} {v : V} {r : List (Str × V)} : ((f, v) :: r).lookup f = some v := by
  rw [List.lookup, beq_self_eq_true]
theorem lkC {c f d : Addr} {e : Nat} : (netF c f d e).lookup ("chars" : Str) = some (.ref c) := lk_hit
theorem lkF {c f d : Addr} {e : Nat} : (netF c f d e).lookup ("follow" : Str) = some (.ref f) := (lk_ne (by decide +kernel)).trans lk_hit
theorem lkE {c f d : Addr} {e : Nat} : (netF c f d e).lookup ("exits" : Str) = some (.int (e : Nat)) := (lk_ne (by decide +kernel)).trans ((lk_ne (by decide +kernel)).trans lk_hit)
theorem fold_take {α β : Type} (f : β → α → β) (b : β) (xs : List α) {i : Nat} {x : α} (h : xs[i]? = some x) : (xs.take (i + 1)).foldl f b = f ((xs.take i).foldl f b) x := by
  rw [List.take_add_one, h, List.foldl_append]
  rfl
theorem charsOf_take (ns : List LNet) (i : Nat) : charsOf (ns.take i) ≤ charsOf ns := by
  have e : charsOf ns = charsOf (ns.take i) + charsOf (ns.drop i) := by
    unfold charsOf
    rw [← List.sum_append, ← List.map_append, List.take_append_drop]
  omega
theorem charsOf_succ (ns : List LNet) {i : Nat} {n : LNet} (h : ns[i]? = some n) : charsOf (ns.take (i + 1)) = charsOf (ns.take i) + n.chars.length := by
  unfold charsOf
  rw [List.take_add_one, h, List.map_append, List.sum_append]
  simp
section
variable {P : Program} {w : World} {K : PySem.W.Frag} {mg : Str → Option Value} {base : Heap} {NC : Addr}
abbrev rOrN : R2 := fun x y H Q => ∃ n m : Nat, x = .int n ∧ y = .int m ∧ Q (.int ((n ||| m : Nat) : Int)) H
set_option maxHeartbeats 20000000 in
theorem ok_chained {k : Nat} {f : Addr} {fd : FuncData} (F : FnP K "chained" "chained" s_chained f fd) (N : Nms mg) (gS : ∃ t, mg "START" = some (.int 1 t)) (T : NetC K NC) (R : Can P w K mg base CX0 "renumbered" ["places", "shift"] 1 spRen) (M : CanNet P w K mg base NC k) : FnOk P w K mg base CX0 (k + 2) f fd ["nets"] (spNets NC chainL) := by
  obtain ⟨tS, gS⟩ := gS
  obtain ⟨fR, fdR, GR, gR, kR, bR⟩ := R
  obtain ⟨fM, fdM, MM, gM, bM, GM⟩ := M
  have nd := sc_chained.nd
  refine F.ok sc_chained (fun vs H Q E h => ?_) (fun cdv A outer s H vs Q E hr h => ?_)
  · obtain ⟨l, ps, rfl, _⟩ := h
    rfl
  · obtain ⟨l, ps, rfl, hl, hn, hc, q⟩ := h
    have r1 := hr.mono (show 1 ≤ k + 1 by omega)
    refine ⟨_, PSs.nox (pss_cons (ps_set (i := 1) nd rfl (by first | exact .inl rfl | exact .inr rfl) (pe_lst pa_nil))
      (pss_cons (ps_set (i := 2) nd rfl (by first | exact .inl rfl | exact .inr rfl) (pe_lst (pa_cons pe_int pa_nil)))
      (pss_cons (ps_set (i := 3) nd rfl (by first | exact .inl rfl | exact .inr rfl) (pe_glob (v := .int 1) (by rfl) gS ⟨_, rfl⟩))
      (pss_cons (ps_for PassesOwn.never rfl (pi_list (pv 0)) (pg_name (i := 4) nd rfl (by first | exact .inl rfl | exact .inr rfl))
        (pss_cons (ps_set (i := 5) nd rfl (by first | exact .inl rfl | exact .inr rfl) (pe_callB call_len_seq (by rfl) N.len PySem.boot_len (pa_cons (pv 1) pa_nil)))
        (pss_cons (ps_set (i := 6) nd rfl (by first | exact .inl rfl | exact .inr rfl) (pe_call GR r1 (by rfl) gR kR bR .nil pass0 (pa_cons (pe_ix ix_list (pe_fld (pv 4) rfl) pe_int (fun _ _ => rfl)) (pa_cons (pv 5) pa_nil))))
        (pss_cons (ps_setLc (i := 2) (own := [("at", 7), ("ways", 8)]) (g := gTup K 2 (gCons (gName 7) (gCons (gName 8) gNil))) (tt := tYes) rfl nd rfl rfl rfl (pi_enum (by rfl) N.enumerate (pa_cons (pv 2) pa_nil)) (blkOk_by (N := ["nets", "chars", "follow", "exits", "net", "shift", "first", "at", "ways", "earlier"]) (sc := defScope s_chained) (by decide +kernel))
            (fun _ _ _ _ _ => pg_tup rfl (pgs_cons (pg_name (i := 7) nd rfl (Or.inl rfl) (Or.inr rfl)) (pgs_cons (pg_name (i := 8) nd rfl (Or.inl rfl) (Or.inr rfl)) pgs_nil))) (fun _ _ _ _ _ => pts_nil)
            (fun _ _ _ _ _ => pe_ifExp (pt_int (pe_op op_andNat (pe_op op_shrNat (pv 3) (pv 7)) pe_int)) (pe_op op_orNat (pv 8) (pv 6)) (pv 8)))
        (pss_cons (ps_set (i := 2) nd rfl (by first | exact .inl rfl | exact .inr rfl) (pe_op op_cat (pv 2) (pe_lc (own := [("ways", 8)]) (g := gName 8) (tt := tYes) rfl nd (pi_list (pe_slice sl_list (pe_fld (pv 4) rfl) (po_some pe_int) po_none)) (blkOk_by (N := ["nets", "chars", "follow", "exits", "net", "shift", "first", "at", "ways", "earlier"]) (sc := defScope s_chained) (by decide +kernel))
            (fun _ _ _ _ _ => pg_name (i := 8) nd rfl (Or.inl rfl)) (fun _ _ _ _ _ => pts_nil) (fun _ _ _ _ _ => pe_call GR r1 (by rfl) gR kR bR .nil pass0 (pa_cons (pv 8) (pa_cons (pv 5) pa_nil))))))
        (pss_cons (ps_set (i := 9) nd rfl (by first | exact .inl rfl | exact .inr rfl) (pe_ifExp (pt_int (pe_op op_andNat (pe_fld (pv 4) rfl) (pe_glob (v := .int 1) (by rfl) gS ⟨_, rfl⟩))) (pv 3) pe_int))
        (pss_cons (ps_set (i := 3) nd rfl (by first | exact .inl rfl | exact .inr rfl) (pe_op op_orNat (pe_call GR r1 (by rfl) gR kR bR .nil pass0 (pa_cons (pe_op op_andEven (pe_fld (pv 4) rfl) (pe_un un_inv (pe_glob (v := .int 1) (by rfl) gS ⟨_, rfl⟩))) (pa_cons (pv 5) pa_nil))) (pv 9)))
        (pss_one (ps_set (i := 1) nd rfl (by first | exact .inl rfl | exact .inr rfl) (pe_op op_cat (pv 1) (pe_fld (pv 4) rfl)))))))))))
      (pss_one (ps_ret (pe_make MM GM hr (by rfl) gM bM .nil pass0 (pa_cons (pv 1) (pa_cons (pv 2) (pa_cons (pv 3) pa_nil)))))))))), ?_⟩
    refine ⟨Nat.zero_le _, fun c hcn => ?_⟩
    have sc := same_new (o := .lst []) hcn
    refine ⟨line_small (by show 1 ≤ 16777216; decide), fun fo hfo => ?_⟩
    have sf := same_new (o := .lst [.int 0]) hfo
    refine ⟨_, rfl, l, rfl, ⟨_, SqL.of ((sc.trans sf) _ _ hl)⟩, ?_⟩
    refine for_list (xs := refsP ps) (fun i σ H' => ∃ (acc : LNet) (c fo : Addr) (x4 x5 x6 x7 x8 x9 : Option V), acc = ((netsP ps).take i).foldl chainStep chain0 ∧ acc.Ok ∧ acc.chars.length = charsOf ((netsP ps).take i) ∧
      σ = [some (.ref l), some (.ref c), some (.ref fo), some (.int (acc.exits : Nat)), x4, x5, x6, x7, x8, x9] ∧ H' c = some (.lst (strsV acc.chars)) ∧ H' fo = some (.lst (intsV acc.follow)) ∧ Same H H' ∧ H c = none ∧ H fo = none) ?_ ?_ ?_ ?_
    · exact ⟨chain0, c, fo, none, none, none, none, none, none, rfl, chain0_ok, rfl, rfl, sf _ _ upd_same, upd_same, sc.trans sf, hcn, sc.free hfo⟩
    · rintro i σ H' _ ⟨_, _, _, _, _, _, _, _, _, _, _, _, _, _, _, sm, _⟩
      exact SqL.of (sm _ _ hl)
    · rintro i x σ H1 hx ⟨acc, c, fo, x4, x5, x6, x7, x8, x9, ea, ok, len, rfl, hc1, hf1, sm, _, _⟩
      obtain ⟨p, hp, rfl⟩ : ∃ p, ps[i]? = some p ∧ x = .ref p.1 := by
        unfold refsP at hx
        rw [List.getElem?_map] at hx
        cases e : ps[i]? with
        | none =>
          rw [e] at hx
          cases hx
        | some p =>
          rw [e] at hx
          exact ⟨p, rfl, (Option.some.inj hx).symm⟩
      have mem : p ∈ ps := List.mem_of_getElem? hp
      obtain ⟨nat, nok⟩ := hn p mem
      have hnp : (netsP ps)[i]? = some p.2 := by
        unfold netsP
        rw [List.getElem?_map, hp]
        rfl
      have tot := charsOf_succ (netsP ps) hnp
      have le := charsOf_take (netsP ps) (i + 1)
      have small : acc.chars.length + p.2.chars.length ≤ 500 := by omega
      obtain ⟨a1, a2, a3, a4, a5⟩ := id ok
      obtain ⟨n1, n2, n3, n4, n5⟩ := id nok
      have nat1 := nat.same sm
      obtain ⟨dx, pc, pf, pd, q1, q2, q3, q4⟩ := nat1
      have wd : ∀ {x k : Nat}, k ≤ 1002 → x < 2 ^ k → x < 2 ^ 2000 := fun {x k} hk h => lt_mono h (by omega)
      have lenV : (strsV acc.chars).length = acc.chars.length := List.length_map _
      refine name_go ?_
      dsimp only
      refine seq_go (asg_go ?_)
      refine ⟨_, rfl, c, _, rfl, .inl (SqL.of hc1), ?_⟩
      rw [lenV]
      refine name_go ?_
      dsimp only
      refine seq_go (asg_go ?_)
      have g0 : atI (intsV p.2.follow) 0 = some (.int (p.2.follow.getD 0 0 : Nat)) := atI_nat (j := 0) (intsV_get (by omega))
      refine ⟨_, rfl, p.1, NC, dx, _, _, rfl, q1, T.cl, T.n2, lkF, pf, _, 0, _, rfl, rfl, SqL.of q3, g0, _, rfl, p.2.follow.getD 0 0, acc.chars.length, rfl, wd (k := p.2.chars.length + 1) (by omega) (getD_lt n3), by omega, ?_⟩
      generalize hfirst : ren (p.2.follow.getD 0 0) acc.chars.length = first
      refine name_go ?_
      dsimp only
      refine seq_go (asg_go ?_)
      -- the ways so far
      refine ⟨_, rfl, fo, _, rfl, SqL.of hf1, fun D hD => ?_⟩
      have lenF : (intsV acc.follow).length = acc.follow.length := intsV_len _
      have sD := same_new (o := .lst []) hD
      refine lc_it (n := acc.follow.length) (by rw [← lenF]; exact walk_enum) (fun j H' => H' D = some (.lst (intsV ((joinF acc.follow acc.exits first).take j))) ∧ Same H1 H') ⟨upd_same, sD⟩ (fun j H' _ h => SqL.of (h.2 _ _ hf1)) ?_ ?_
      · rintro j x H2 H3 hj ⟨e2, s2⟩ ⟨T3, y, z, rfl, hT, rfl, hy, hz⟩
        have ey : y = .int (j : Nat) := (Option.some.inj hy).symm
        have ez : z = .int (acc.follow.getD j 0 : Nat) := by
          have hz2 : (intsV acc.follow)[j]? = some z := hz
          rw [intsV_get hj] at hz2
          exact (Option.some.inj hz2).symm
        subst ey ez
        have sT := same_new (o := .tup [.int (j : Nat), .int (acc.follow.getD j 0 : Nat)]) hT
        refine ⟨T3, _, rfl, SqT.of upd_same, rfl, _, _, rfl, _, _, rfl, rfl, rfl, yes_keep ?_⟩
        refine ⟨_, rfl, _, rfl, acc.exits, j, rfl, rfl, acc.exits >>> j, 1, rfl, rfl, _, rfl, ?_⟩
        have nx : ∀ v : Nat, v = (joinF acc.follow acc.exits first).getD j 0 → ∃ ac, upd H2 T3 (.tup [.int (j : Nat), .int (acc.follow.getD j 0 : Nat)]) D = some (.lst ac) ∧ ac.length < sizeLine ∧
            upd (upd H2 T3 (.tup [.int (j : Nat), .int (acc.follow.getD j 0 : Nat)])) D (.lst (ac ++ [.int (v : Nat)])) D = some (.lst (intsV ((joinF acc.follow acc.exits first).take (j + 1)))) ∧ Same H1 (upd (upd H2 T3 (.tup [.int (j : Nat), .int (acc.follow.getD j 0 : Nat)])) D (.lst (ac ++ [.int (v : Nat)]))) := fun v ev => by
          have lj : (joinF acc.follow acc.exits first).length = acc.follow.length := by unfold joinF; simp
          refine ⟨_, sT _ _ e2, ?_, ?_, fun b o zb => ?_⟩
          · rw [intsV_len, List.length_take]
            exact small1000 (by omega)
          · rw [upd_same, List.take_add_one, List.getElem?_eq_getElem (by omega), ← intsV_app]
            rw [List.getD_eq_getElem?_getD, List.getElem?_eq_getElem (by omega)] at ev
            rw [ev]
            rfl
          · rw [upd_ne (ne_of_none zb hD)]
            exact sT _ _ (s2 _ _ zb)
        have jv : (joinF acc.follow acc.exits first).getD j 0 = if (acc.exits >>> j) &&& 1 = 0 then acc.follow.getD j 0 else acc.follow.getD j 0 ||| first := by
          unfold joinF
          rw [List.getD_eq_getElem?_getD, List.getElem?_map, List.getElem?_range hj]
          rfl
        by_cases hb : (acc.exits >>> j) &&& 1 = 0
        · rw [hb]
          refine iteF ?_
          exact ⟨_, rfl, nx _ (by rw [jv, if_pos hb])⟩
        · have hb1 : (((acc.exits >>> j &&& 1 : Nat) : Int) != 0) = true := by
            simp only [bne_iff_ne, ne_eq]
            omega
          refine (if_pos hb1).mpr ?_
          exact ⟨_, rfl, _, rfl, _, _, rfl, rfl, nx _ (by rw [jv, if_neg hb])⟩
      · rintro H2 ⟨e2, s2⟩
        have lj : (joinF acc.follow acc.exits first).length = acc.follow.length := by unfold joinF; simp
        rw [List.take_of_length_le (by omega)] at e2
        refine name_go ?_
        dsimp only
        refine seq_go (asg_go ?_)
        -- the rest of the net
        refine ⟨_, rfl, _, rfl, p.1, NC, dx, _, _, rfl, s2 _ _ q1, T.cl, T.n2, lkF, 1, rfl, pf, _, rfl, SqL.of (s2 _ _ q3), fun sl hsl => ?_⟩
        rw [cut_one, intsV_drop]
        have s3 := s2.trans (same_new (o := .lst (intsV (p.2.follow.drop 1))) hsl)
        have e3 := (same_new (o := .lst (intsV (p.2.follow.drop 1))) hsl) _ _ e2
        refine ⟨sl, rfl, ⟨_, SqL.of upd_same⟩, fun D2 hD2 => ?_⟩
        have sD2 := same_new (o := .lst []) hD2
        refine lc_it (n := (p.2.follow.drop 1).length) (by rw [← intsV_len (p.2.follow.drop 1)]; exact walk_list) (fun j H' => H' D2 = some (.lst (intsV (((p.2.follow.drop 1).take j).map fun x => ren x acc.chars.length))) ∧ Same (upd H2 sl (.lst (intsV (p.2.follow.drop 1)))) H') ⟨upd_same, sD2⟩ (fun j H' _ h => SqL.of (h.2 _ _ upd_same)) ?_ ?_
        · rintro j x H3 _ hj ⟨e4, s4⟩ ⟨rfl, hx2⟩
          rw [intsV_get hj] at hx2
          have ex := (Option.some.inj hx2).symm
          subst ex
          refine ⟨rfl, yes_keep ?_⟩
          refine ⟨_, rfl, _, rfl, _, acc.chars.length, rfl, wd (k := p.2.chars.length + 1) (by omega) (getD_lt fun x hx => n3 x (List.mem_of_mem_drop hx)), by omega, _, e4, ?_, ?_, fun b o zb => ?_⟩
          · rw [intsV_len, List.length_map, List.length_take]
            have h9 : (p.2.follow.drop 1).length = p.2.follow.length - 1 := List.length_drop
            exact small1000 (by omega)
          · rw [upd_same, List.take_add_one, List.getElem?_eq_getElem hj, List.map_append, ← intsV_app, List.getD_eq_getElem?_getD, List.getElem?_eq_getElem hj]
            rfl
          · rw [upd_ne (ne_of_none zb hD2)]
            exact s4 _ _ zb
        · rintro H3 ⟨e4, s4⟩
          rw [List.take_of_length_le (Nat.le_refl _)] at e4
          have h9 : (p.2.follow.drop 1).length = p.2.follow.length - 1 := List.length_drop
          have s5 : Same H1 H3 := s3.trans s4
          refine ⟨D, D2, _, _, rfl, rfl, s4 _ _ e3, e4, ?_, fun fo2 hfo2 => ?_⟩
          · rw [intsV_len, intsV_len, List.length_map, lj]
            exact line_small (by omega)
          rw [intsV_app]
          have ef2 : joinF acc.follow acc.exits first ++ (p.2.follow.drop 1).map (fun x => ren x acc.chars.length) = (chainStep acc p.2).follow := by
            unfold chainStep
            rw [hfirst]
          rw [ef2]
          have s6 := s5.trans (same_new (o := .lst (intsV (chainStep acc p.2).follow)) hfo2)
          refine name_go ?_
          dsimp only
          refine seq_go (asg_go ?_)
          refine te_go (.int ((if p.2.exits &&& 1 = 0 then 0 else acc.exits : Nat) : Int)) (fun Q' zq => ?_) ?_
          · refine ⟨_, rfl, p.1, NC, dx, _, _, rfl, s6 _ _ q1, T.cl, T.n3, lkE, p.2.exits, 1, rfl, rfl, _, rfl, ?_⟩
            by_cases hb : p.2.exits &&& 1 = 0
            · rw [if_pos hb] at zq
              rw [hb]
              exact iteF zq
            · rw [if_neg hb] at zq
              have hb1 : (((p.2.exits &&& 1 : Nat) : Int) != 0) = true := by
                simp only [bne_iff_ne, ne_eq]
                omega
              refine (if_pos hb1).mpr ?_
              exact ⟨_, rfl, zq⟩
          refine name_go ?_
          dsimp only
          refine seq_go (asg_go ?_)
          refine ⟨_, rfl, p.1, NC, dx, _, _, rfl, s6 _ _ q1, T.cl, T.n3, lkE, 1, rfl, p.2.exits, rfl, rfl, _, rfl, p.2.exits / 2 * 2, acc.chars.length, rfl, wd (k := p.2.chars.length + 1) (by omega) (by omega), by omega, _, rfl, _, _, rfl, rfl, ?_⟩
          refine name_go ?_
          dsimp only
          refine asg_go ?_
          refine ⟨_, rfl, _, rfl, p.1, NC, dx, _, _, rfl, s6 _ _ q1, T.cl, T.n1, lkC, c, pc, _, _, rfl, rfl, s6 _ _ hc1, s6 _ _ q2, ?_, fun c2 hc2 => ?_⟩
          · show (strsV acc.chars).length + (strsV p.2.chars).length ≤ sizeLine
            unfold strsV
            rw [List.length_map, List.length_map]
            exact line_small (by omega)
          have ec2 : strsV acc.chars ++ strsV p.2.chars = strsV (chainStep acc p.2).chars := by
            unfold strsV chainStep
            rw [List.map_append]
          rw [ec2]
          have s7 := same_new (o := .lst (strsV (chainStep acc p.2).chars)) hc2
          refine ⟨chainStep acc p.2, c2, fo2, _, _, _, _, _, _, ?_, chainStep_ok ok nok (by omega), ?_, rfl, upd_same, s7 _ _ upd_same, (sm.trans s6).trans s7, (sm.trans s6).free hc2, (sm.trans s5).free hfo2⟩
          · rw [fold_take chainStep chain0 (netsP ps) hnp, ← ea]
          · unfold chainStep
            rw [List.length_append]
            omega
    · rintro σ H1 ⟨acc, c, fo, x4, x5, x6, x7, x8, x9, ea, ok, len, rfl, hc1, hf1, sm, z1, z2⟩
      have lr : (refsP ps).length = (netsP ps).length := by unfold refsP netsP; rw [List.length_map, List.length_map]
      rw [lr, List.take_of_length_le (Nat.le_refl _)] at ea
      refine ⟨_, rfl, _, rfl, _, rfl, ?_⟩
      subst ea
      exact make_net (n := chainL (netsP ps)) ok hc1 hf1 fun r H' s2 hr0 at_ => q r c fo H' (sm.trans s2) (sm.free hr0) z1 z2 (at_.of sm)
end
end K04

set_option autoImplicit false
set_option maxErrors 4
namespace K04
open PySem PySem.Spec PyProof.Rows L2 Tl
/-! ### nets side by side -/
def sideStep (a n : LNet) : LNet :=
  ⟨a.chars ++ n.chars, (a.follow.getD 0 0 ||| ren (n.follow.getD 0 0) a.chars.length) :: (a.follow.drop 1 ++ (n.follow.drop 1).map fun x => ren x a.chars.length), a.exits ||| ren n.exits a.chars.length⟩
def side0 : LNet := ⟨[], [0], 0⟩
def sideL (ns : List LNet) : LNet := ns.foldl sideStep side0
theorem side0_ok : side0.Ok := ⟨rfl, Nat.zero_le _, fun x hx => by rw [List.mem_singleton.mp hx]; decide, by decide, fun s h => by cases h⟩
theorem sideStep_ok {a n : LNet} (ha : a.Ok) (hn : n.Ok) (small : a.chars.length + n.chars.length ≤ 1000) : (sideStep a n).Ok := by
  obtain ⟨a1, a2, a3, a4, a5⟩ := ha
  obtain ⟨n1, n2, n3, n4, n5⟩ := hn
  have up : ∀ {x : Nat}, x < 2 ^ (n.chars.length + 1) → ren x a.chars.length < 2 ^ (a.chars.length + n.chars.length + 1) := fun {x} h => by
    have z := ren_lt (s := a.chars.length) h
    rw [show n.chars.length + a.chars.length + 1 = a.chars.length + n.chars.length + 1 by omega] at z
    exact z
  have wd : ∀ {x : Nat}, x < 2 ^ (a.chars.length + 1) → x < 2 ^ (a.chars.length + n.chars.length + 1) := fun {x} h => lt_mono h (by omega)
  unfold LNet.Ok sideStep
  simp only [List.length_append, List.length_map, List.length_cons, List.length_drop]
  refine ⟨by omega, small, fun x hx => ?_, or_lt (wd a4) (up n4), fun s h => (List.mem_append.mp h).elim (a5 s) (n5 s)⟩
  rcases List.mem_cons.mp hx with rfl | hx
  · exact or_lt (wd (getD_lt a3)) (up (getD_lt n3))
  · rcases List.mem_append.mp hx with hx | hx
    · exact wd (a3 x (List.mem_of_mem_drop hx))
    · obtain ⟨y, hy, rfl⟩ := List.mem_map.mp hx
      exact up (n3 y (List.mem_of_mem_drop hy))
section
variable {P : Program} {w : World} {K : PySem.W.Frag} {mg : Str → Option Value} {base : Heap} {NC : Addr}
set_option maxHeartbeats 20000000 in
theorem ok_side {k : Nat} {f : Addr} {fd : FuncData} (F : FnP K "side_by_side" "side_by_side" s_side_by_side f fd) (N : Nms mg) (T : NetC K NC) (R : Can P w K mg base CX0 "renumbered" ["places", "shift"] 1 spRen) (M : CanNet P w K mg base NC k) : FnOk P w K mg base CX0 (k + 2) f fd ["nets"] (spNets NC sideL) := by
  obtain ⟨fR, fdR, GR, gR, kR, bR⟩ := R
  obtain ⟨fM, fdM, MM, gM, bM, GM⟩ := M
  have nd := sc_side_by_side.nd
  refine F.ok sc_side_by_side (fun vs H Q E h => ?_) (fun cdv A outer s H vs Q E hr h => ?_)
  · obtain ⟨l, ps, rfl, _⟩ := h
    rfl
  · obtain ⟨l, ps, rfl, hl, hn, hc, q⟩ := h
    have r1 := hr.mono (show 1 ≤ k + 1 by omega)
    refine ⟨_, PSs.nox (pss_cons (ps_set (i := 1) nd rfl (by first | exact .inl rfl | exact .inr rfl) (pe_lst pa_nil))
      (pss_cons (ps_set (i := 2) nd rfl (by first | exact .inl rfl | exact .inr rfl) pe_int)
      (pss_cons (ps_set (i := 3) nd rfl (by first | exact .inl rfl | exact .inr rfl) (pe_lst pa_nil))
      (pss_cons (ps_set (i := 4) nd rfl (by first | exact .inl rfl | exact .inr rfl) pe_int)
      (pss_cons (ps_for PassesOwn.never rfl (pi_list (pv 0)) (pg_name (i := 5) nd rfl (by first | exact .inl rfl | exact .inr rfl))
        (pss_cons (ps_set (i := 6) nd rfl (by first | exact .inl rfl | exact .inr rfl) (pe_callB call_len_seq (by rfl) N.len PySem.boot_len (pa_cons (pv 1) pa_nil)))
        (pss_cons (ps_set (i := 2) nd rfl (by first | exact .inl rfl | exact .inr rfl) (pe_op op_orNat (pv 2) (pe_call GR r1 (by rfl) gR kR bR .nil pass0 (pa_cons (pe_ix ix_list (pe_fld (pv 5) rfl) pe_int (fun _ _ => rfl)) (pa_cons (pv 6) pa_nil)))))
        (pss_cons (ps_set (i := 3) nd rfl (by first | exact .inl rfl | exact .inr rfl) (pe_op op_cat (pv 3) (pe_lc (own := [("ways", 7)]) (g := gName 7) (tt := tYes) rfl nd (pi_list (pe_slice sl_list (pe_fld (pv 5) rfl) (po_some pe_int) po_none)) (blkOk_by (N := ["nets", "chars", "first", "follow", "exits", "net", "shift", "ways"]) (sc := defScope s_side_by_side) (by decide +kernel))
            (fun _ _ _ _ _ => pg_name (i := 7) nd rfl (Or.inl rfl)) (fun _ _ _ _ _ => pts_nil) (fun _ _ _ _ _ => pe_call GR r1 (by rfl) gR kR bR .nil pass0 (pa_cons (pv 7) (pa_cons (pv 6) pa_nil))))))
        (pss_cons (ps_set (i := 4) nd rfl (by first | exact .inl rfl | exact .inr rfl) (pe_op op_orNat (pv 4) (pe_call GR r1 (by rfl) gR kR bR .nil pass0 (pa_cons (pe_fld (pv 5) rfl) (pa_cons (pv 6) pa_nil)))))
        (pss_one (ps_set (i := 1) nd rfl (by first | exact .inl rfl | exact .inr rfl) (pe_op op_cat (pv 1) (pe_fld (pv 5) rfl)))))))))
      (pss_one (ps_ret (pe_make MM GM hr (by rfl) gM bM .nil pass0 (pa_cons (pv 1) (pa_cons (pe_op op_cat (pe_lst (pa_cons (pv 2) pa_nil)) (pv 3)) (pa_cons (pv 4) pa_nil))))))))))), ?_⟩
    refine ⟨Nat.zero_le _, fun c hcn => ?_⟩
    have sc := same_new (o := .lst []) hcn
    refine ⟨Nat.zero_le _, fun fo hfo => ?_⟩
    have sf := same_new (o := .lst []) hfo
    refine ⟨_, rfl, l, rfl, ⟨_, SqL.of ((sc.trans sf) _ _ hl)⟩, ?_⟩
    refine for_list (xs := refsP ps) (fun i σ H' => ∃ (acc : LNet) (c fo : Addr) (x5 x6 x7 : Option V), acc = ((netsP ps).take i).foldl sideStep side0 ∧ acc.Ok ∧ acc.chars.length = charsOf ((netsP ps).take i) ∧
      σ = [some (.ref l), some (.ref c), some (.int (acc.follow.getD 0 0 : Nat)), some (.ref fo), some (.int (acc.exits : Nat)), x5, x6, x7] ∧ H' c = some (.lst (strsV acc.chars)) ∧ H' fo = some (.lst (intsV (acc.follow.drop 1))) ∧ Same H H' ∧ H c = none) ?_ ?_ ?_ ?_
    · exact ⟨side0, c, fo, none, none, none, rfl, side0_ok, rfl, rfl, sf _ _ upd_same, upd_same, sc.trans sf, hcn⟩
    · rintro i σ H' _ ⟨_, _, _, _, _, _, _, _, _, _, _, _, sm, _⟩
      exact SqL.of (sm _ _ hl)
    · rintro i x σ H1 hx ⟨acc, c, fo, x5, x6, x7, ea, ok, len, rfl, hc1, hf1, sm, _⟩
      obtain ⟨p, hp, rfl⟩ : ∃ p, ps[i]? = some p ∧ x = .ref p.1 := by
        unfold refsP at hx
        rw [List.getElem?_map] at hx
        cases e : ps[i]? with
        | none =>
          rw [e] at hx
          cases hx
        | some p =>
          rw [e] at hx
          exact ⟨p, rfl, (Option.some.inj hx).symm⟩
      have mem : p ∈ ps := List.mem_of_getElem? hp
      obtain ⟨nat, nok⟩ := hn p mem
      have hnp : (netsP ps)[i]? = some p.2 := by
        unfold netsP
        rw [List.getElem?_map, hp]
        rfl
      have tot := charsOf_succ (netsP ps) hnp
      have le := charsOf_take (netsP ps) (i + 1)
      have small : acc.chars.length + p.2.chars.length ≤ 500 := by omega
      obtain ⟨a1, a2, a3, a4, a5⟩ := id ok
      obtain ⟨n1, n2, n3, n4, n5⟩ := id nok
      have nat1 := nat.same sm
      obtain ⟨dx, pc, pf, pd, q1, q2, q3, q4⟩ := nat1
      have wd : ∀ {x k : Nat}, k ≤ 1002 → x < 2 ^ k → x < 2 ^ 2000 := fun {x k} hk h => lt_mono h (by omega)
      have lenV : (strsV acc.chars).length = acc.chars.length := List.length_map _
      refine name_go ?_
      dsimp only
      refine seq_go (asg_go ?_)
      refine ⟨_, rfl, c, _, rfl, .inl (SqL.of hc1), ?_⟩
      rw [lenV]
      refine name_go ?_
      dsimp only
      refine seq_go (asg_go ?_)
      have g0 : atI (intsV p.2.follow) 0 = some (.int (p.2.follow.getD 0 0 : Nat)) := atI_nat (j := 0) (intsV_get (by omega))
      refine ⟨_, rfl, _, rfl, p.1, NC, dx, _, _, rfl, q1, T.cl, T.n2, lkF, pf, _, 0, _, rfl, rfl, SqL.of q3, g0, _, rfl, p.2.follow.getD 0 0, acc.chars.length, rfl, wd (k := p.2.chars.length + 1) (by omega) (getD_lt n3), by omega, _, _, rfl, rfl, ?_⟩
      refine name_go ?_
      dsimp only
      refine seq_go (asg_go ?_)
      have s2 := Same.refl H1
      refine ⟨_, rfl, _, rfl, p.1, NC, dx, _, _, rfl, q1, T.cl, T.n2, lkF, 1, rfl, pf, _, rfl, SqL.of q3, fun sl hsl => ?_⟩
      rw [cut_one, intsV_drop]
      have s3 := same_new (o := .lst (intsV (p.2.follow.drop 1))) hsl
      refine ⟨sl, rfl, ⟨_, SqL.of upd_same⟩, fun D2 hD2 => ?_⟩
      have sD2 := same_new (o := .lst []) hD2
      refine lc_it (n := (p.2.follow.drop 1).length) (by rw [← intsV_len (p.2.follow.drop 1)]; exact walk_list) (fun j H' => H' D2 = some (.lst (intsV (((p.2.follow.drop 1).take j).map fun x => ren x acc.chars.length))) ∧ Same (upd H1 sl (.lst (intsV (p.2.follow.drop 1)))) H') ⟨upd_same, sD2⟩ (fun j H' _ h => SqL.of (h.2 _ _ upd_same)) ?_ ?_
      · rintro j x H3 _ hj ⟨e4, s4⟩ ⟨rfl, hx2⟩
        rw [intsV_get hj] at hx2
        have ex := (Option.some.inj hx2).symm
        subst ex
        refine ⟨rfl, yes_keep ?_⟩
        refine ⟨_, rfl, _, rfl, _, acc.chars.length, rfl, wd (k := p.2.chars.length + 1) (by omega) (getD_lt fun x hx => n3 x (List.mem_of_mem_drop hx)), by omega, _, e4, ?_, ?_, fun b o zb => ?_⟩
        · rw [intsV_len, List.length_map, List.length_take]
          have h9 : (p.2.follow.drop 1).length = p.2.follow.length - 1 := List.length_drop
          exact small1000 (by omega)
        · rw [upd_same, List.take_add_one, List.getElem?_eq_getElem hj, List.map_append, ← intsV_app, List.getD_eq_getElem?_getD, List.getElem?_eq_getElem hj]
          rfl
        · rw [upd_ne (ne_of_none zb hD2)]
          exact s4 _ _ zb
      · rintro H3 ⟨e4, s4⟩
        rw [List.take_of_length_le (Nat.le_refl _)] at e4
        have h9 : (p.2.follow.drop 1).length = p.2.follow.length - 1 := List.length_drop
        have h8 : (acc.follow.drop 1).length = acc.follow.length - 1 := List.length_drop
        have s5 : Same H1 H3 := s3.trans s4
        refine ⟨fo, D2, _, _, rfl, rfl, s5 _ _ hf1, e4, ?_, fun fo2 hfo2 => ?_⟩
        · rw [intsV_len, intsV_len, List.length_map]
          exact line_small (by omega)
        rw [intsV_app]
        have ef2 : acc.follow.drop 1 ++ (p.2.follow.drop 1).map (fun x => ren x acc.chars.length) = (sideStep acc p.2).follow.drop 1 := rfl
        rw [ef2]
        have s6 := s5.trans (same_new (o := .lst (intsV ((sideStep acc p.2).follow.drop 1))) hfo2)
        refine name_go ?_
        dsimp only
        refine seq_go (asg_go ?_)
        refine ⟨_, rfl, _, rfl, p.1, NC, dx, _, _, rfl, s6 _ _ q1, T.cl, T.n3, lkE, _, rfl, p.2.exits, acc.chars.length, rfl, wd (k := p.2.chars.length + 1) (by omega) n4, by omega, _, _, rfl, rfl, ?_⟩
        refine name_go ?_
        dsimp only
        refine asg_go ?_
        refine ⟨_, rfl, _, rfl, p.1, NC, dx, _, _, rfl, s6 _ _ q1, T.cl, T.n1, lkC, c, pc, _, _, rfl, rfl, s6 _ _ hc1, s6 _ _ q2, ?_, fun c2 hc2 => ?_⟩
        · show (strsV acc.chars).length + (strsV p.2.chars).length ≤ sizeLine
          unfold strsV
          rw [List.length_map, List.length_map]
          exact line_small (by omega)
        have ec2 : strsV acc.chars ++ strsV p.2.chars = strsV (sideStep acc p.2).chars := by
          unfold strsV sideStep
          rw [List.map_append]
        rw [ec2]
        have s7 := same_new (o := .lst (strsV (sideStep acc p.2).chars)) hc2
        refine ⟨sideStep acc p.2, c2, fo2, _, _, _, ?_, sideStep_ok ok nok (by omega), ?_, rfl, upd_same, s7 _ _ upd_same, (sm.trans s6).trans s7, (sm.trans s6).free hc2⟩
        · rw [fold_take sideStep side0 (netsP ps) hnp, ← ea]
        · unfold sideStep
          rw [List.length_append]
          omega
    · rintro σ H1 ⟨acc, c, fo, x5, x6, x7, ea, ok, len, rfl, hc1, hf1, sm, z1⟩
      have lr : (refsP ps).length = (netsP ps).length := by unfold refsP netsP; rw [List.length_map, List.length_map]
      rw [lr, List.take_of_length_le (Nat.le_refl _)] at ea
      obtain ⟨a1, a2, a3, a4, a5⟩ := id ok
      refine ⟨_, rfl, _, rfl, line_small (by show 1 ≤ 16777216; decide), fun b hb => ?_⟩
      have sb := same_new (o := .lst [.int (acc.follow.getD 0 0 : Nat)]) hb
      have h8 : (acc.follow.drop 1).length = acc.follow.length - 1 := List.length_drop
      refine ⟨_, rfl, b, fo, _, _, rfl, rfl, upd_same, sb _ _ hf1, ?_, fun f2 hf2 => ?_⟩
      · rw [intsV_len]
        exact line_small (by show 1 + _ ≤ 16777216; omega)
      have ef : [V.int (acc.follow.getD 0 0 : Nat)] ++ intsV (acc.follow.drop 1) = intsV acc.follow := by
        cases e : acc.follow with
        | nil =>
          rw [e] at a1
          cases a1
        | cons x r => rfl
      rw [ef]
      have sf2 := same_new (o := .lst (intsV acc.follow)) hf2
      refine ⟨_, rfl, ?_⟩
      subst ea
      exact make_net (n := sideL (netsP ps)) ok (sf2 _ _ (sb _ _ hc1)) upd_same fun r H' s2 hr0 at_ => q r c f2 H' (((sm.trans sb).trans sf2).trans s2) (((sm.trans sb).trans sf2).free hr0) z1 ((sm.trans sb).free hf2) (at_.of ((sm.trans sb).trans sf2))
end
end K04

set_option autoImplicit false
set_option maxErrors 4
namespace K04
open PySem PySem.Spec PyProof.Rows L2 Tl
theorem addN_length (d : SN) (s : Str) (v : Nat) : (addN d s v).length ≤ d.length + 1 := putN_length _ _ _
theorem range_fold {β : Type} (f : β → Nat → β) (b : β) (n : Nat) : (List.range (n + 1)).foldl f b = f ((List.range n).foldl f b) n := by
  rw [List.range_succ, List.foldl_append]
  rfl
def byStT (cs : List Str) (i : Nat) : SN := (List.range i).foldl (fun d i => addN d (cs.getD i default) (1 <<< (1 + i))) []
theorem byStT_len (cs : List Str) : ∀ i, (byStT cs i).length ≤ i
  | 0 => Nat.le_refl _
  | i + 1 => by
    unfold byStT
    rw [range_fold]
    exact Nat.le_trans (addN_length _ _ _) (Nat.succ_le_succ (byStT_len cs i))
theorem bySt_eq (cs : List Str) : bySt cs = byStT cs cs.length := rfl
theorem spread_take (c : SN) (s : Str) (v : Nat) (j : Nat) (x : Nat) (h : s.cps[j]? = some x) : ((s.cps.toList.take (j + 1)).foldl (fun c n => addN c ⟨#[n]⟩ v) c) = addN ((s.cps.toList.take j).foldl (fun c n => addN c ⟨#[n]⟩ v) c) ⟨#[x]⟩ v := by
  rw [List.take_add_one, Array.getElem?_toList, h, List.foldl_append]
  rfl
theorem putN_keys {d : SN} {s : Str} {v : Nat} {p : Str × Nat} (h : p ∈ putN d s v) : p.1 = s ∨ ∃ x ∈ d, x.1 = p.1 := by
  unfold putN at h
  split at h
  · obtain ⟨x, hx, rfl⟩ := List.mem_map.mp h
    split
    · exact .inr ⟨x, hx, rfl⟩
    · exact .inr ⟨x, hx, rfl⟩
  · rcases List.mem_append.mp h with h | h
    · exact .inr ⟨p, h, rfl⟩
    · rw [List.mem_singleton.mp h]
      exact .inl rfl
theorem byStT_keys (cs : List Str) : ∀ i, i ≤ cs.length → ∀ p ∈ byStT cs i, p.1 ∈ cs
  | 0, _, p, h => by cases h
  | i + 1, hi, p, h => by
    unfold byStT at h
    rw [range_fold] at h
    rcases putN_keys h with e | ⟨x, hx, e⟩
    · rw [e, List.getD_eq_getElem?_getD, List.getElem?_eq_getElem (by omega)]
      exact List.getElem_mem _
    · rw [← e]
      exact byStT_keys cs i (by omega) x hx
section
variable {P : Program} {w : World} {K : PySem.W.Frag} {mg : Str → Option Value} {base : Heap} {NC : Addr}
def spPbc : Sp := fun vs H Q _ => ∃ (c : Addr) (cs : List Str), vs = [.ref c] ∧ H c = some (.lst (strsV cs)) ∧ cs.length ≤ 1000 ∧ (∀ s ∈ cs, s.cps.size ≤ 1000) ∧ ∀ d H', Same H H' → H d = none → H' d = some (.dK (standsFor cs)) → Q (.ref d) H'
set_option maxHeartbeats 20000000 in
theorem ok_pbc {f : Addr} {fd : FuncData} (F : FnP K "places_by_char" "places_by_char" s_places_by_char f fd) (N : Nms mg) : FnOk P w K mg base CX0 1 f fd ["chars"] spPbc := by
  have nd := sc_places_by_char.nd
  refine F.ok sc_places_by_char (fun vs H Q E h => ?_) (fun cdv A outer s H vs Q E hr h => ?_)
  · obtain ⟨c, cs, rfl, _⟩ := h
    rfl
  · obtain ⟨c, cs, rfl, hc, len, sz, q⟩ := h
    have hu : (A.deeper (envOfC "places_by_char" (defScope s_places_by_char) s.heap.objs.size f cdv)).units + 1 < cLine := by have := hr.un; omega
    refine ⟨_, PSs.nox (pss_cons (ps_set (i := 1) nd rfl (.inl rfl) pe_dnewK)
      (pss_cons (ps_for PassesOwn.never rfl (pi_enum (by rfl) N.enumerate (pa_cons (pv 0) pa_nil)) (pg_tup rfl (pgs_cons (pg_name (i := 2) nd rfl (.inl rfl) (.inr rfl)) (pgs_cons (pg_name (i := 3) nd rfl (.inl rfl) (.inr rfl)) pgs_nil)))
        (pss_one (ps_dput hu (pv 1) (pv 3) (pe_op op_orNat (pe_dget2 hu (pv 1) (pv 3) pe_int ⟨rfl, rfl, rfl, rfl⟩) (pe_op op_shlNat pe_int (pe_op op_addNat pe_int (pv 2)))) rfl)))
      (pss_cons (ps_set (i := 4) nd rfl (.inl rfl) pe_dnewK)
      (pss_cons (ps_lock (ps_for PassesOwn.never rfl (pi_items (pv 1)) (pg_tup rfl (pgs_cons (pg_name (i := 3) nd rfl (.inl rfl) (.inr rfl)) (pgs_cons (pg_name (i := 5) nd rfl (.inl rfl) (.inr rfl)) pgs_nil)))
        (pss_one (ps_for PassesOwn.never rfl (pi_str (pv 3)) (pg_name (i := 6) nd rfl (.inl rfl))
          (pss_one (ps_dput hu (pv 4) (pv 6) (pe_op op_orNat (pe_dget2 hu (pv 4) (pv 6) pe_int ⟨rfl, rfl, rfl, rfl⟩) (pv 5)) rfl))))))
      (pss_one (ps_ret (pv 4))))))), ?_⟩
    intro d hd
    have sd := same_new (o := .dK []) hd
    have wide : 1 < 2 ^ 4000 := Nat.lt_of_lt_of_le (show 1 < 2 ^ 1 by decide) (Nat.pow_le_pow_right (by decide) (by decide))
    have gv : ∀ (D : SN) (s : Str), (valV (kvsV D) (Sum.inr s)).getD (.int 0) = .int (((getN D s).getD 0 : Nat) : Int) := fun D s => by
      rw [kvsV_get]
      cases getN D s <;> rfl
    have lenV : (strsV cs).length = cs.length := List.length_map _
    have lenK : ∀ D : SN, (kvsV D).length = D.length := fun D => List.length_map _
    have getV : ∀ {j : Nat}, j < cs.length → (strsV cs)[j]? = some (.str (cs.getD j default)) := fun {j} hj => by
      unfold strsV
      rw [List.getElem?_map, List.getElem?_eq_getElem hj, List.getD_eq_getElem?_getD, List.getElem?_eq_getElem hj]
      rfl
    refine name_go ?_
    dsimp only
    refine seq_go ?_
    refine ⟨_, rfl, c, _, rfl, SqL.of (sd _ _ hc), ?_⟩
    refine for_it (n := cs.length) (by rw [← lenV]; exact walk_enum) (fun i σ H' => ∃ x2 x3 x4 x5 x6 : Option V, σ = [some (.ref c), some (.ref d), x2, x3, x4, x5, x6] ∧ H' d = some (.dK (kvsV (byStT cs i))) ∧ Same H H') ⟨none, none, none, none, none, rfl, upd_same, sd⟩ (fun i σ H' _ h => by
      obtain ⟨_, _, _, _, _, _, _, sm⟩ := h
      exact SqL.of (sm _ _ hc)) ?_ ?_
    · rintro i x σ H1 H2 hi ⟨x2, x3, x4, x5, x6, rfl, e, sm⟩ ⟨T3, y, z, rfl, hT, rfl, hy, hz⟩
      have ey : y = .int (i : Nat) := (Option.some.inj hy).symm
      have ez : z = .str (cs.getD i default) := by
        have hz2 : (strsV cs)[i]? = some z := hz
        rw [getV hi] at hz2
        exact (Option.some.inj hz2).symm
      subst ey ez
      have sT := same_new (o := .tup [.int (i : Nat), .str (cs.getD i default)]) hT
      have e1 := sT _ _ e
      refine ⟨T3, _, rfl, SqT.of upd_same, rfl, _, _, rfl, _, _, rfl, rfl, ?_⟩
      refine ⟨_, rfl, d, rfl, .inl ⟨_, .inl e1⟩, _, rfl, _, DGet.k (k := Sum.inr (cs.getD i default)) e1, ?_⟩
      rw [gv]
      refine ⟨_, rfl, 1, i, rfl, rfl, 1, 1 + i, rfl, rfl, wide, by omega, _, _, rfl, rfl, ?_⟩
      refine ⟨_, rfl, _, rfl, d, _, rfl, DPut.k (k := Sum.inr (cs.getD i default)) e1 ?_, ?_⟩
      · rw [lenK]
        exact small1000 (by have := byStT_len cs i; omega)
      rw [kvsV_put]
      refine ⟨_, _, _, _, _, rfl, ?_, fun b o zb => ?_⟩
      · rw [upd_same]
        unfold byStT
        rw [range_fold]
        rfl
      · have nb : b ≠ d := ne_of_none zb hd
        rw [upd_ne nb]
        exact sT _ _ (sm _ _ zb)
    · rintro σ H1 ⟨x2, x3, x4, x5, x6, rfl, e, sm⟩
      rw [← bySt_eq] at e
      have lb : (bySt cs).length ≤ 1000 := by
        rw [bySt_eq]
        exact Nat.le_trans (byStT_len cs _) len
      dsimp only
      refine seq_go (asg_go ?_)
      intro g hg
      have sg0 := same_new (o := .dK []) hg
      refine name_go ?_
      dsimp only
      have e2 := sg0 _ _ e
      have ngd : g ≠ d := fun z => by
        rw [z, e] at hg
        cases hg
      refine seq_go ⟨d, .dK (kvsV (bySt cs)), e2, True.intro, fun od => ?_⟩
      refine ⟨_, rfl, d, od, _, rfl, upd_same, ?_⟩
      have keys : ∀ p ∈ bySt cs, p.1.cps.size ≤ 1000 := fun p hp => sz _ (byStT_keys cs _ (Nat.le_refl _) p (by rw [← bySt_eq]; exact hp))
      generalize hbs : bySt cs = bs at e e2 lb keys
      have far : ∀ {b : Addr} {o : HO}, H b = some o → b ≠ d ∧ b ≠ g := fun {b o} zb => ⟨ne_of_none zb hd, ne_of_none (sm _ _ zb) hg⟩
      have lenB : (kvsV bs).length = bs.length := lenK _
      refine for_it (n := bs.length) (by rw [← lenB]; exact walk_items) (fun i σ H' => ∃ x2 x3 x5 x6 : Option V, σ = [some (.ref c), some (.ref d), x2, x3, some (.ref g), x5, x6] ∧ H' d = some (.frz od (.dK (kvsV bs))) ∧ H' g = some (.dK (kvsV ((bs.take i).foldl (fun c p => spread c p.1 p.2) []))) ∧
        ((bs.take i).foldl (fun c p => spread c p.1 p.2) ([] : SN)).length ≤ i * 1000 ∧ ∀ b o, H b = some o → H' b = some o) ⟨_, _, _, _, rfl, upd_same, by rw [upd_ne ngd, upd_same]; rfl, Nat.zero_le _, fun b o zb => by rw [upd_ne (far zb).1]; exact sg0 _ _ (sm _ _ zb)⟩ (fun i σ H' _ h => by
          obtain ⟨_, _, _, _, _, z, _⟩ := h
          exact z) ?_ ?_
      · rintro i x σ H2 H3 hi ⟨x2, x3, x5, x6, rfl, ed, eg, lg, kp⟩ ⟨T3, y, z, rfl, hT, rfl, hy, hz⟩
        have hp : (kvsV bs)[i]? = some (Sum.inr bs[i].1, .int (bs[i].2 : Nat)) := by
          unfold kvsV
          rw [List.getElem?_map, List.getElem?_eq_getElem hi]
          rfl
        have ey : y = .str bs[i].1 := by
          have hy2 : (kvsV bs)[i]?.map (fun kv => kV kv.1) = some y := hy
          rw [hp] at hy2
          exact (Option.some.inj hy2).symm
        have ez : z = .int (bs[i].2 : Nat) := by
          have hz2 : (kvsV bs)[i]?.map Prod.snd = some z := hz
          rw [hp] at hz2
          exact (Option.some.inj hz2).symm
        subst ey ez
        have sT := same_new (o := .tup [.str bs[i].1, .int (bs[i].2 : Nat)]) hT
        generalize hc0 : (bs.take i).foldl (fun c p => spread c p.1 p.2) ([] : SN) = c0 at eg lg
        have step : (bs.take (i + 1)).foldl (fun c p => spread c p.1 p.2) ([] : SN) = spread c0 bs[i].1 bs[i].2 := by
          rw [fold_take (fun c p => spread c p.1 p.2) [] bs (List.getElem?_eq_getElem hi), hc0]
        have sb : bs[i].1.cps.size ≤ 1000 := keys _ (List.getElem_mem _)
        refine ⟨T3, _, rfl, SqT.of upd_same, rfl, _, _, rfl, _, _, rfl, rfl, ?_⟩
        refine ⟨_, rfl, _, rfl, ?_⟩
        refine for_it (n := bs[i].1.cps.size) walk_str (fun j σ H' => ∃ x2 x6 : Option V, σ = [some (.ref c), some (.ref d), x2, some (.str bs[i].1), some (.ref g), some (.int (bs[i].2 : Nat)), x6] ∧ H' d = some (.frz od (.dK (kvsV bs))) ∧
          H' g = some (.dK (kvsV ((bs[i].1.cps.toList.take j).foldl (fun c n => addN c ⟨#[n]⟩ bs[i].2) c0))) ∧ ((bs[i].1.cps.toList.take j).foldl (fun c n => addN c ⟨#[n]⟩ bs[i].2) c0).length ≤ i * 1000 + j ∧ ∀ b o, H b = some o → H' b = some o)
          ⟨_, _, rfl, sT _ _ ed, sT _ _ eg, by simpa using lg, fun b o zb => sT _ _ (kp b o zb)⟩ (fun _ _ _ _ _ => True.intro) ?_ ?_
        · rintro j x σ H4 H5 hj ⟨y2, y6, rfl, fd4, fg4, lg4, kp4⟩ ⟨rfl, ch, hch, rfl⟩
          have ngd2 : g ≠ d := ngd
          refine ⟨_, rfl, g, rfl, .inl ⟨_, .inl fg4⟩, _, rfl, _, DGet.k (k := Sum.inr ⟨#[ch]⟩) fg4, ?_⟩
          rw [gv]
          refine ⟨_, rfl, _, _, rfl, rfl, _, rfl, _, rfl, g, _, rfl, DPut.k (k := Sum.inr ⟨#[ch]⟩) fg4 ?_, ?_⟩
          · rw [lenK]
            have : i * 1000 ≤ 1000 * 1000 := Nat.mul_le_mul_right _ (by omega)
            rw [sizeLine_eq]
            omega
          rw [kvsV_put]
          refine ⟨_, _, rfl, ?_, ?_, ?_, fun b o zb => ?_⟩
          · rw [upd_ne ngd2.symm]
            exact fd4
          · rw [upd_same, spread_take c0 bs[i].1 bs[i].2 j ch hch]
            rfl
          · rw [spread_take c0 bs[i].1 bs[i].2 j ch hch]
            have := addN_length ((bs[i].1.cps.toList.take j).foldl (fun c n => addN c ⟨#[n]⟩ bs[i].2) c0) ⟨#[ch]⟩ bs[i].2
            omega
          · rw [upd_ne (far zb).2]
            exact kp4 b o zb
        · rintro σ H4 ⟨y2, y6, rfl, fd4, fg4, lg4, kp4⟩
          have tk : bs[i].1.cps.toList.take bs[i].1.cps.size = bs[i].1.cps.toList := List.take_of_length_le (by simp)
          rw [tk] at fg4 lg4
          have sp : bs[i].1.cps.toList.foldl (fun c n => addN c ⟨#[n]⟩ bs[i].2) c0 = spread c0 bs[i].1 bs[i].2 := rfl
          rw [sp] at fg4 lg4
          refine ⟨_, _, _, _, rfl, fd4, ?_, ?_, kp4⟩
          · rw [step]
            exact fg4
          · rw [step]
            omega
      · rintro σ H2 ⟨x2, x3, x5, x6, rfl, ed, eg, lg, kp⟩
        rw [List.take_of_length_le (Nat.le_refl _)] at eg
        refine ⟨ed, _, rfl, ?_⟩
        refine q g _ (fun b o zb => ?_) (sm.free hg) ?_
        · rw [upd_ne (far zb).1]
          exact kp b o zb
        · rw [upd_ne ngd, eg]
          unfold standsFor byCh
          rw [hbs]
end
end K04

set_option autoImplicit false
set_option maxErrors 4
namespace K04
open PySem PySem.Spec PyProof.Rows L2 Tl
theorem lk_nil {f : Str} : ([] : List (Str × V)).lookup f = none := rfl
section
variable {P : Program} {w : World} {K : PySem.W.Frag} {mg : Str → Option Value} {base : Heap} {NC : Addr}
theorem ok_net_init {f : Addr} {fd : FuncData} (F : FnP K "__init__" "Net.__init__" s_Net_init_ f fd) (T : NetC K NC) (M : Mk K NC f) (gM : mg "Net" = some (.ref NC)) (b : Binds K fd ["self", "chars", "follow", "exits"] [])
    (B : Can P w K mg base CX0 "places_by_char" ["chars"] 1 spPbc) : CanNet P w K mg base NC 2 := by
  obtain ⟨fB, fdB, GB, gB, kB, bB⟩ := B
  have nd := sc_Net_init_.nd
  refine ⟨f, fd, M, gM, b, F.ok sc_Net_init_ (fun vs H Q E h => ?_) (fun cdv A outer s H vs Q E hr h => ?_)⟩
  · obtain ⟨p, dx, c, f, n, rfl, _⟩ := h
    rfl
  · obtain ⟨p, dx, c, f, n, rfl, ok, hp, hc, hf, q⟩ := h
    refine ⟨_, PSs.nox (pss_cons (ps_fld (pv 0) (pv 1) rfl) (pss_cons (ps_fld (pv 0) (pv 2) rfl) (pss_cons (ps_fld (pv 0) (pv 3) rfl) (pss_one (ps_fld (pv 0) (pe_call GB (hr.mono (by decide)) (by rfl) gB kB bB .nil pass0 (pa_cons (pv 1) pa_nil)) rfl))))), ?_⟩
    have npc : p ≠ c := fun z => by rw [z, hc] at hp; cases hp
    have npf : p ≠ f := fun z => by rw [z, hf] at hp; cases hp
    have far : ∀ {b : Addr} {o u : HO}, H b = some o → b ≠ p → (upd H p u) b = some o := fun {b o u} z nb => by
      rw [upd_ne nb]
      exact z
    refine ⟨_, rfl, _, rfl, p, NC, dx, _, rfl, hp, T.cl, T.n1, (by show 0 < 1000; decide), ?_⟩
    refine ⟨_, rfl, _, rfl, p, NC, dx, _, rfl, upd_same, T.cl, T.n2, (by show 1 < 1000; decide), ?_⟩
    rw [upd_upd]
    refine ⟨_, rfl, _, rfl, p, NC, dx, _, rfl, upd_same, T.cl, T.n3, (by show 2 < 1000; decide), ?_⟩
    rw [upd_upd]
    obtain ⟨a1, a2, a3, a4, a5⟩ := ok
    refine ⟨_, rfl, c, n.chars, rfl, far hc npc.symm, a2, a5, fun d H' sm hd ed => ?_⟩
    have e1 := sm _ _ upd_same
    have ndp : d ≠ p := fun z => by rw [z, upd_same] at hd; cases hd
    refine ⟨_, rfl, p, NC, dx, _, rfl, e1, T.cl, T.n4, (by show 3 < 1000; decide), ?_⟩
    refine q _ (fun x o e nx => ?_) ⟨dx, d, by rw [upd_ne ndp] at hd; exact hd, ?_, ?_, ?_, ?_⟩
    · rw [upd_ne nx]
      exact sm _ _ (far e nx)
    · rw [upd_same]
      rfl
    · rw [upd_ne npc.symm]
      exact sm _ _ (far hc npc.symm)
    · rw [upd_ne npf.symm]
      exact sm _ _ (far hf npf.symm)
    · rw [upd_ne ndp]
      exact ed
end
end K04

set_option autoImplicit false
set_option maxErrors 4
/-! a op b of one own class that may raise; a == xs; a def held in a local name; for x in xs, xs a list or a tuple. -/
namespace Tl
open PySem PySem.Spec PyProof.Rows L2
section
variable {X : Cx} {CX : CXT} {k : Nat} {C f : Addr} {fd : FuncData} {ps : List Str} {sp : Sp} {E : L2.St → XK}
def rBinE (C : Addr) (sp : Sp) (E : L2.St → XK) : L2.St → R2 := fun τ x y H Q => ∃ a dx fs b dy gs, x = .ref a ∧ y = .ref b ∧ H a = some (.ins C dx fs) ∧ H b = some (.ins C dy gs) ∧ sp [.ref a, .ref b] H Q (E τ)
theorem op_binE {op : Operator} (hc : PySem.W.selfFirst X.K C = true) (M : OpC X.K C (PySem.dunder op.info.2) f) (F : FnOk X.prog X.w X.K X.mg X.base CX k f fd ps sp) (hr : Room k X.A) (hb : Binds X.K fd ps []) (out : ∀ τ, PassesAt CX X τ (E τ)) :
    OpS X (binaryOp op) (rBinE C sp E) := by
  intro pn t τ G x y va vb W I rx ry h
  obtain ⟨a, dx, fs, b, dy, gs, rfl, rfl, ha, hb2, q⟩ := h
  cases rx
  cases ry
  obtain ⟨oa, da, Ja⟩ := inst_of I ha
  obtain ⟨ob, db, Jb⟩ := inst_of I hb2
  obtain ⟨mm, Fm⟩ := I.fr
  have one := run_opS F hr hb (out τ) I (.cons (relRef _) (.cons (relRef _) .nil)) q
  exact PySem.W.binop_K Fm I.mod.kin Ja Jb.type hc M.at_ M.fn (wpAny_mono one (fun _ _ z => back_ok z) fun _ _ z => z)
/-- a == xs, xs a list -/
def rEqXs (C : Addr) (sp : Sp) : R2 := fun x y H Q => ∃ a dx fs b xs, x = .ref a ∧ y = .ref b ∧ H a = some (.ins C dx fs) ∧ H b = some (.lst xs) ∧ sp [.ref a, .ref b] H Q E0
theorem op_eqXs (nf : PySem.W.notFirst X.K C (.type "list") = true) (M : OpC X.K C "__eq__" f) (F : FnOk X.prog X.w X.K X.mg X.base CX k f fd ps sp) (hr : Room k X.A) (hb : Binds X.K fd ps []) (hx : Passes CX X E0) : OpR X (compareOp .Eq) (rEqXs C sp) := by
  intro pn t τ G x y va vb W I rx ry h
  obtain ⟨a, dx, fs, b, xs, rfl, rfl, ha, hb2, q⟩ := h
  have look := (Pl.lst hb2).looks I ry
  cases rx
  cases ry
  obtain ⟨oa, da, Ja⟩ := inst_of I ha
  obtain ⟨mm, Fm⟩ := I.fr
  have one := run_op F hr hb hx I (.cons (relRef _) (.cons (relRef b) .nil)) q
  exact PySem.W.cmp_K (op := .Eq) (Nat.lt_of_succ_lt (hu_of hr)) Fm I.mod.kin Ja look nf M.at_ M.fn (wpAny_mono one (fun _ _ z => back_ok z) fun _ _ z => z)
end
section
variable {X : Cx} {CX : CXT} {j i : Nat} {E : L2.St → XK} {x : Str} {e : Expr} {es : List Expr} {t : TA} {p pos : Pos}
/-- the def is told by the reading -/
def tHeld (P : Program) (w : World) (K : PySem.W.Frag) (mg : Str → Option Value) (base : Heap) (CX : CXT) (j i : Nat) (E : L2.St → XK) (t : TA) : TE := fun σ H Q => ∃ f : Addr, σ[i]? = some (some (.ref f)) ∧ PySem.W.keepIn K (.ref f) = true ∧
  t σ H fun vs H1 => ∃ (fd : FuncData) (ps : List Str) (k : Nat) (sp : Sp), k ≤ j ∧ FnOk P w K mg base CX k f fd ps sp ∧ Binds K fd ps [] ∧ sp vs H1 Q (E σ)
theorem pe_held (hr : Room j X.A) (out : ∀ σ, PassesAt CX X σ (E σ)) (hN : X.N[i]? = some x) (hv : Vis X.env.scope x) (ha : PA X (e :: es) t) (hd : (x == ("__debug__" : Str)) = false := by decide) (hcd : (x == ("__classdict__" : Str)) = false := by decide)
    (he : starEach (e :: es) X.env = (false, eval e X.env) :: starEach es X.env := by rfl) (hpl : (backTo pos (starEach es X.env)).any (·.1) = false := by rfl) :
    PE X (.Call (.Name x p) (e :: es) [] pos) (tHeld X.prog X.w X.K X.mg X.base CX j i E t) := by
  refine ⟨fun pins s σ H Q I h => ?_⟩
  obtain ⟨f, hs, kp, h⟩ := h
  refine wpAny_Call_Name_kw (thn ((pe_var (pos := p) (i := i) hN hv hd hcd).run pins s σ H (fun v H1 => v = .ref f ∧ H1 = H) I ⟨.ref f, hs, rfl, rfl⟩) fun u s1 z => ?_)
  obtain ⟨v, H1, I1, r1, ev, eH⟩ := z
  subst ev eH
  cases r1
  refine PySem.W.callWith_K (h₀ := X.base) I.ok.mod.kin kp (thn (ha.run pos pins s1 σ _ _ I1 h) fun us s2 z => ?_) he hpl
  obtain ⟨vs, H2, I2, r, fd, ps, k, sp, hk, F, b, q⟩ := z
  exact ⟨I2.kIn, run_opS F (hr.mono hk) b (out σ) I2 r q⟩
/-- what a list or a tuple gives -/
def iSeq (K : PySem.W.Frag) (tl : TE) : TI := fun σ H R => tl σ H fun x H1 => ∃ a, x = .ref a ∧ (((∃ xs, SqL K H1 a xs) ∧ R (Itl K a) H1) ∨ ((∃ xs, SqT K H1 a xs) ∧ R (Itt K a) H1))
theorem pi_seq {tg l : Expr} {tl : TE} (hl : PE X l tl) : PI X tg l (iSeq X.K tl) := by
  refine ⟨fun pn t τ G R I h => thn (hl.run pn t τ G _ I h) fun v t1 z => ?_⟩
  obtain ⟨y, G1, I1, ry, a, rfl, z⟩ := z
  cases ry
  have one : ∀ b, b = t1.heap.objs.size → FpOk X pn G1 b := fun b e => by
    subst e
    exact I1.fpOk (Nat.le_refl _) (I1.hok.fresh (Nat.le_refl _))
  rcases z with ⟨⟨xs, sq⟩, r⟩ | ⟨⟨xs, sq⟩, r⟩
  · obtain ⟨its, rv, p, _⟩ := I1.list sq
    exact wpAny_pyIter_list p.isList ⟨t1.heap.objs.size, [t1.heap.objs.size], _, _, G1, rfl, I1.kept (t' := t1.toks) fun b o e => Heap.get?_push_of_some _ e, turn_list a _, ⟨_, Heap.get?_push_size _ rfl, rfl, rfl⟩, fun b hb => one b (by simpa using hb), r⟩
  · obtain ⟨its, rv, p, _⟩ := I1.tuple sq
    exact wpAny_pyIter_tuple (show t1.heap.IsTuple a its.toArray from p) ⟨t1.heap.objs.size, [t1.heap.objs.size], _, _, G1, rfl, I1.kept (t' := t1.toks) fun b o e => Heap.get?_push_of_some _ e, turn_tuple a _, ⟨_, Heap.get?_push_size _ rfl, rfl, rfl⟩, fun b hb => one b (by simpa using hb), r⟩
end
end Tl

set_option autoImplicit false
set_option maxErrors 4
/-! A dict of True's whose keys are nested tuples: what {k: True for ..} and tuple(d) make of it. -/
namespace Tl
open PySem PySem.Spec PyProof.Rows L2
mutual
/-- v is the key k, by the tracked tuples -/
inductive NkV (H : Hp) : NestedKey → V → Prop
  | non : NkV H .none .non
  | int (i : Int) : NkV H (.num i) (.int i)
  | str (x : Str) : NkV H (.text x) (.str x)
  | tup {a : Addr} {vs : List V} {ks : List NestedKey} : H a = some (.tup vs) → NkAll H ks vs → NkV H (.tup ks) (.ref a)
inductive NkAll (H : Hp) : List NestedKey → List V → Prop
  | nil : NkAll H [] []
  | cons {k : NestedKey} {v : V} {ks : List NestedKey} {vs : List V} : NkV H k v → NkAll H ks vs → NkAll H (k :: ks) (v :: vs)
end
section
variable {P : Program} {w : World} {H H' : Hp} {h : Heap}
mutual
theorem NkV.is (ok : HOk P w H h) : ∀ (k : NestedKey) (v : V) (u : Value), NkV H k v → RelV v u → NestedIs h k u
  | .none, _, _, x, r => by
    cases x
    cases r
    exact .none
  | .num i, _, _, x, r => by
    cases x
    obtain ⟨t, rfl⟩ := r
    exact .int i t
  | .text z, _, _, x, r => by
    cases x
    obtain ⟨t, rfl⟩ := r
    exact .text z t
  | .tup ks, _, _, x, r => by
    cases x with
    | tup e al =>
      cases r
      obtain ⟨_, its, rel, o, g, c, n, d⟩ := ok _ _ e
      exact .tup g c d (by simpa using NkAll.is ok ks _ its al rel)
theorem NkAll.is (ok : HOk P w H h) : ∀ (ks : List NestedKey) (vs : List V) (us : List Value), NkAll H ks vs → Vals vs us → NestedAll h ks us
  | [], _, _, x, r => by
    cases x
    cases r
    exact .nil
  | k :: ks, _, _, x, r => by
    cases x with
    | cons x1 x2 =>
      cases r with
      | cons r1 r2 => exact .cons (NkV.is ok k _ _ x1 r1) (NkAll.is ok ks _ _ x2 r2)
end
mutual
theorem NkV.same (s : Same H H') : ∀ (k : NestedKey) (v : V), NkV H k v → NkV H' k v
  | .none, _, x => by cases x; exact .non
  | .num i, _, x => by cases x; exact .int i
  | .text z, _, x => by cases x; exact .str z
  | .tup ks, _, x => by
    cases x with
    | tup e al => exact .tup (s _ _ e) (NkAll.same s ks _ al)
theorem NkAll.same (s : Same H H') : ∀ (ks : List NestedKey) (vs : List V), NkAll H ks vs → NkAll H' ks vs
  | [], _, x => by cases x; exact .nil
  | k :: ks, _, x => by
    cases x with
    | cons x1 x2 => exact .cons (NkV.same s k _ x1) (NkAll.same s ks _ x2)
end
end
abbrev Ks := List (NestedKey × Addr)
def rowsO (ks : Ks) : List (NestedKey × Addr × Value) := ks.map fun x => (x.1, x.2, .bool true)
/-- the dict at D: the keys in order, each with True -/
def ordO (P : Program) (w : World) (D : Addr) (ks : Ks) : HO := .ext fun h => ks.length ≤ sizeLine ∧ (D == sysModules) = false ∧ (ks.map (·.1)).Nodup ∧ ∃ o es ep, h.get? D = some o ∧ o.ExactDict ∧ o.data = .dict es ep ∧ es.toList = (rowsO ks).map (entryOfKey (nestedKind P w))
def putO (ks : Ks) (k : NestedKey) (a : Addr) : Ks := if k ∈ ks.map (·.1) then ks else ks ++ [(k, a)]
/-- the keys stand where they are said to stand -/
def KeysAt (H : Hp) (ks : Ks) : Prop := ∀ x ∈ ks, x.1.depth ≤ 8 ∧ NkV H x.1 (.ref x.2)
theorem KeysAt.same {H H' : Hp} {ks : Ks} (k : KeysAt H ks) (s : Same H H') : KeysAt H' ks := fun x hx => ⟨(k x hx).1, (k x hx).2.same s⟩
theorem KeysAt.put {H : Hp} {ks : Ks} {k : NestedKey} {a : Addr} (h : KeysAt H ks) (d : k.depth ≤ 8) (v : NkV H k (.ref a)) : KeysAt H (putO ks k a) := by
  unfold putO
  split
  · exact h
  · intro x hx
    rcases List.mem_append.mp hx with hx | hx
    · exact h x hx
    · rw [List.mem_singleton.mp hx]
      exact ⟨d, v⟩
theorem putO_nodup {ks : Ks} {k : NestedKey} {a : Addr} (h : (ks.map (·.1)).Nodup) : ((putO ks k a).map (·.1)).Nodup := by
  unfold putO
  split
  · exact h
  · rename_i n
    rw [List.map_append, List.nodup_append]
    refine ⟨h, by simp, fun x hx y hy e => ?_⟩
    simp only [List.map_cons, List.map_nil, List.mem_singleton] at hy
    subst hy e
    exact n hx
theorem putO_length (ks : Ks) (k : NestedKey) (a : Addr) : (putO ks k a).length ≤ ks.length + 1 := by
  unfold putO
  split <;> simp
theorem rowsO_put (ks : Ks) (k : NestedKey) (a : Addr) : storedH (rowsO ks) k a (.bool true) = rowsO (putO ks k a) := by
  have look : (atKey (rowsO ks) k).isSome = decide (k ∈ ks.map (·.1)) := by
    unfold rowsO
    induction ks with
    | nil => rfl
    | cons x r ih =>
      by_cases e : x.1 = k
      · simp [atKey, e]
      · have e2 : ¬ k = x.1 := fun z => e z.symm
        have m : decide (k ∈ (x :: r).map (·.1)) = decide (k ∈ r.map (·.1)) := by
          rw [decide_eq_decide, List.map_cons, List.mem_cons]
          exact ⟨fun z => z.resolve_left e2, .inr⟩
        rw [m, ← ih]
        simp [atKey, e]
  have keep : (rowsO ks).map (putAt k (.bool true)) = rowsO ks := by
    unfold rowsO
    rw [List.map_map]
    refine List.map_congr_left fun x _ => ?_
    by_cases e : x.1 = k <;> simp [putAt, e]
  unfold storedH putO
  rw [look]
  by_cases m : k ∈ ks.map (·.1)
  · rw [if_pos (decide_eq_true m), if_pos m, keep]
  · rw [if_neg (by simpa using m), if_neg m]
    unfold rowsO
    rw [List.map_append]
    rfl
section
variable {P : Program} {w : World} {H : Hp} {h : Heap} {D : Addr} {ks : Ks}
theorem ordO_ok (z : ks.length ≤ sizeLine) (nd : (D == sysModules) = false) (dis : (ks.map (·.1)).Nodup) (x : ∃ o es ep, h.get? D = some o ∧ o.ExactDict ∧ o.data = .dict es ep ∧ es.toList = (rowsO ks).map (entryOfKey (nestedKind P w))) : ObjOk P w H h D (ordO P w D ks) := by
  obtain ⟨o, es, ep, g, r⟩ := id x
  exact ⟨⟨z, nd, dis, x⟩, ⟨o, g⟩, fun h1 h2 y k => by
    obtain ⟨z, nd, dis, o, es, ep, g, r⟩ := y
    exact ⟨z, nd, dis, o, es, ep, k _ g, r⟩⟩
theorem ordO_new (hp : Heap) (hb : sysModules < hp.objs.size) : ObjOk P w H (hp.push { cls := .type "dict", data := .dict #[] }) hp.objs.size (ordO P w hp.objs.size []) :=
  ordO_ok (Nat.zero_le _) (beq_eq_false_iff_ne.mpr (Ne.symm (Nat.ne_of_lt hb))) List.nodup_nil ⟨_, #[], 0, Heap.get?_push_size _ rfl, ⟨rfl, rfl, rfl⟩, rfl, rfl⟩
theorem ordO_at (ok : HOk P w H h) (e : H D = some (ordO P w D ks)) : ks.length ≤ sizeLine ∧ (D == sysModules) = false ∧ (ks.map (·.1)).Nodup ∧ ∃ o es ep, h.get? D = some o ∧ o.ExactDict ∧ o.data = .dict es ep ∧ es.toList = (rowsO ks).map (entryOfKey (nestedKind P w)) := by
  have x : ObjOk P w H h D (ordO P w D ks) := ok D _ e
  exact x.1
theorem ordO_keyed (ok : HOk P w H h) (e : H D = some (ordO P w D ks)) (at_ : KeysAt H ks) : h.DictOfH (nestedKind P w) D (rowsO ks) := by
  obtain ⟨_, _, dis, o, es, ep, g, c, d, l⟩ := ordO_at ok e
  refine ⟨o, es, ep, g, c, d, l, fun x hx => ?_, by unfold rowsO; rw [List.map_map]; exact dis⟩
  obtain ⟨y, hy, rfl⟩ := List.mem_map.mp hx
  exact ⟨(at_ y hy).2.is ok _ _ _ rfl, (at_ y hy).1⟩
end
/-- d[k] = True by a comprehension -/
theorem put_ord {X : Cx} {pins : List (Addr × Obj)} {σ : L2.St} {H : Hp} {s : Shared} {E : Value → Shared → Prop} {D a : Addr} {ks : Ks} {k : NestedKey} {Q : Unit → Shared → Prop} (hu : X.A.units + 8 < cLine) (I : Inv X pins σ H s) (e : H D = some (ordO X.prog X.w D ks)) (at_ : KeysAt H ks)
    (small : ks.length < sizeLine) (dp : k.depth ≤ 8) (hk : NkV H k (.ref a)) (h : ∀ s', Inv X pins σ (upd H D (ordO X.prog X.w D (putO ks k a))) s' → Q () s') : wpAny (model X.prog X.w) X.A (dictSet D (.ref a) (.bool true)) Q E s := by
  obtain ⟨_, nd, dis, _⟩ := ordO_at I.hok e
  have len : (rowsO ks).length ≤ sizeLine := by
    unfold rowsO
    rw [List.length_map]
    exact Nat.le_of_lt small
  refine wpAny_dictSet_heap (knd := nestedKind X.prog X.w) (hsz := len) hu ⟨hk.is I.hok _ _ _ rfl, dp⟩ (ordO_keyed I.hok e at_) fun h' dd sb => h _ ?_
  rw [rowsO_put] at dd
  obtain ⟨o, es, ep, g, c, d, l, _, _⟩ := dd
  exact d_write I (by rw [e]; exact True.intro) sb ⟨o, g⟩ (ordO_ok (Nat.le_trans (putO_length ks k a) small) nd (putO_nodup dis) ⟨o, es, ep, g, c, d, l⟩)
end Tl

set_option autoImplicit false
set_option maxErrors 4
/-! {k: True for target in iter if ..}, k a tuple, nested. -/
namespace Tl
open PySem PySem.Spec PyProof.Rows L2
section
variable {X : Cx}
/-- one turn: the target is bound, the tests asked, the key and the True made, the key put -/
def ordTurn (P : Program) (w : World) (g : TG) (tt : TT) (tk tv : TE) (vs : List Nat) (σ : L2.St) (D : Addr) (Nx : Hp → Prop) (x : V) (H : Hp) : Prop := g x (wipe σ vs) H fun σ2 H2 => wipe σ2 vs = wipe σ vs ∧ tt σ2 H2 fun b H3 =>
  if b = true then tk σ2 H3 fun y H4 => tv σ2 H4 fun z H5 => ∃ (ks : Ks) (k : NestedKey) (a : Addr), y = .ref a ∧ z = .bl true ∧ H5 D = some (ordO P w D ks) ∧ ks.length < sizeLine ∧ k.depth ≤ 8 ∧ NkV H5 k (.ref a) ∧ KeysAt H5 ks ∧ Nx (upd H5 D (ordO P w D (putO ks k a))) else Nx H3
def tOrd (P : Program) (w : World) (wi : TI) (g : TG) (tt : TT) (tk tv : TE) (vs : List Nat) : TE := fun σ H Q => wi σ H fun J H1 => ∀ D, H1 D = none → ∃ W : Nat → Nat → Hp → Prop, (∃ m, W 0 m (upd H1 D (ordO P w D []))) ∧
  ∀ i m H2, W i m H2 → (J.stop i H2 ∧ Q (.ref D) H2) ∨ (J.go i H2 ∧ ∃ Nx : Hp → Prop, (∀ H3, Nx H3 → ∃ j, j < m ∧ W (i + 1) j H3) ∧ ∀ x H3, J.yld i H2 x H3 → ordTurn P w g tt tk tv vs σ D Nx x H3)
theorem ord_core {pins : List (Addr × Obj)} {s : Shared} {σ : L2.St} {H : Hp} {Q : VK} {kx vx tg iter : Expr} {ifs : List Expr} {scope : Scope} {own : List (Str × Nat)} {pos pos' : Pos} {wi : TI} {g : TG} {tt : TT} {tk tv : TE} {use : Option (Value → Sem Unit)} {Qf : Value → Shared → Prop}
    (calm : X.calm = true) (hu : X.A.units + 8 < cLine) (nd : X.N.Nodup) (I : Inv X pins σ H s) (it : PI X tg iter wi) (bo : BlkOk X.N X.env.scope scope own)
    (pg : ∀ (s : Shared) (H : Hp) (C : Addr) (cl : List (Str × Addr)) (fp : List Addr), PG (X.blk s H scope (compEnvC scope cl C X.env) fp) tg g) (pt : ∀ (s : Shared) (H : Hp) (C : Addr) (cl : List (Str × Addr)) (fp : List Addr), PTs (X.blk s H scope (compEnvC scope cl C X.env) fp) ifs tt)
    (pk : ∀ (s : Shared) (H : Hp) (C : Addr) (cl : List (Str × Addr)) (fp : List Addr), PE (X.blk s H scope (compEnvC scope cl C X.env) fp) kx tk)
    (pv : ∀ (s : Shared) (H : Hp) (C : Addr) (cl : List (Str × Addr)) (fp : List Addr), PE (X.blk s H scope (compEnvC scope cl C X.env) fp) vx tv) (fold : ∀ x, foldedSetIterable iter X.env x = pure x)
    (asked : tOrd X.prog X.w wi g tt tk tv (own.map (·.2)) σ H Q)
    (ends : ∀ D C s' m H', Inv X pins σ H' s' → Q (.ref D) H' → s'.heap.Ns C m → FpOk X pins H' C → compPost (model X.prog X.w) X.A X.xe use Qf (.ref D) C (.ok .next) s') :
    wpAny (model X.prog X.w) X.A (comprehension (.DictComp kx vx [⟨tg, iter, ifs, 0⟩] scope pos) scope X.env pos' newDict false (eval iter X.env) use) Qf X.xe s := by
  have clo : ∀ y ∈ scope.names, y.2 = .free → ∃ c, X.env.cells.lookup y.1 = some c := fun y hy e => (bo.free y hy e).elim (fun z => I.ok.has _ (.inl z)) fun z => I.ok.has _ (.inr z)
  refine wpAny_comprehension_free (use := use) rfl fold (closure_ok clo) bo.kind (fun y hy e => by rw [bo.uniq y hy, e]) (thn (it.run pins s σ H _ I asked) fun src sa ha => thn ha fun iv sb hb => ?_)
  obtain ⟨ita, fp, tn, J, Hb, rfl, Ib, T, at0, fpok, wish⟩ := hb
  refine wpAny_newObj_type (newEnv_comp ?_)
  -- the new dict
  generalize eD : sb.heap.objs.size = D
  obtain ⟨W, ⟨m0, w0⟩, turns⟩ := wish D (Ib.hok.fresh (Nat.le_of_eq eD))
  have lay : Inv X pins σ (upd Hb D (ordO X.prog X.w D [])) { sb with heap := sb.heap.push { cls := .type "dict", data := .dict #[] } } := by
    subst eD
    exact Ib.laid (t' := sb.toks) (fun b o e => Heap.get?_push_of_some _ e) (Nat.le_refl _) (ordO_new sb.heap Ib.big)
  have old : ∀ b ∈ fp, b < sb.heap.objs.size := fun b hb => by
    obtain ⟨o, e, _⟩ := T.obj _ _ at0 b hb
    exact Heap.lt_size e
  generalize eHc : upd Hb D (ordO X.prog X.w D []) = Hc at lay w0
  have fpc : ∀ b ∈ fp, FpOk X pins Hc b ∧ b < (sb.heap.push { cls := .type "dict", data := .dict #[] }).objs.size := fun b hb => by
    have lt := old b hb
    refine ⟨⟨?_, (fpok b hb).2⟩, Nat.lt_trans lt (by rw [Heap.size_push]; exact Nat.lt_succ_self _)⟩
    rw [← eHc, upd_ne (by rw [← eD]; exact Nat.ne_of_lt lt)]
    exact (fpok b hb).1
  have tnc : tn 0 (sb.heap.push { cls := .type "dict", data := .dict #[] }) := T.keep _ _ _ at0 fun b _ o e => Heap.get?_push_of_some _ e
  generalize esc : ({ sb with heap := sb.heap.push { cls := .type "dict", data := .dict #[] } } : Shared) = sc at lay
  have hsc : sb.heap.push { cls := .type "dict", data := .dict #[] } = sc.heap := by rw [← esc]
  rw [hsc] at fpc tnc
  have start := block_start lay bo nd fpc
  have kg := pg sc Hc sc.heap.objs.size (cellsFrom (sc.heap.objs.size + 1) scope.names (cloFrom X.env.cells scope.names [])) fp
  have kt := pt sc Hc sc.heap.objs.size (cellsFrom (sc.heap.objs.size + 1) scope.names (cloFrom X.env.cells scope.names [])) fp
  have kk := pk sc Hc sc.heap.objs.size (cellsFrom (sc.heap.objs.size + 1) scope.names (cloFrom X.env.cells scope.names [])) fp
  have kv := pv sc Hc sc.heap.objs.size (cellsFrom (sc.heap.objs.size + 1) scope.names (cloFrom X.env.cells scope.names [])) fp
  show codeAny _ _ (.compStart (.DictComp kx vx [⟨tg, iter, ifs, 0⟩] scope pos) 0 (.ref ita) (.ref D) (compEnvC scope (cellsFrom (sc.heap.objs.size + 1) scope.names (cloFrom X.env.cells scope.names [])) sc.heap.objs.size X.env)) (compPost (model X.prog X.w) X.A X.xe use Qf (.ref D) sc.heap.objs.size)
    { sc with heap := pushCells (sc.heap.push { cls := .type "dict", data := .dict #[] }) scope.names }
  generalize ece : compEnvC scope (cellsFrom (sc.heap.objs.size + 1) scope.names (cloFrom X.env.cells scope.names [])) sc.heap.objs.size X.env = ce at start kg kt kk kv ⊢
  have lc : ce.locals = sc.heap.objs.size := by rw [← ece]; rfl
  have tnd : tn 0 (pushCells (sc.heap.push { cls := .type "dict", data := .dict #[] }) scope.names) := T.keep _ _ _ tnc fun b _ o e => pushCells_keeps _ _ _ _ (Heap.get?_push_of_some _ e)
  generalize ese : ({ sc with heap := pushCells (sc.heap.push { cls := .type "dict", data := .dict #[] }) scope.names } : Shared) = se at start ⊢
  have tne : tn 0 se.heap := by rw [← ese]; exact tnd
  have still : ∀ {σ' : L2.St} {H' : Hp} {s' : Shared}, Inv (X.blk sc Hc scope ce fp) [] σ' H' s' → (∀ b ∈ fp, H' b = none) → ∀ b ∈ fp, FpOk (X.blk sc Hc scope ce fp) [] H' b := by
    intro σ' H' s' I' n b hb
    exact ⟨n b hb, (I'.ok.exf b hb).1, I'.ok.exfs b hb, .inl hb, fun x c e => (I'.ok.exf b hb).2 x c e, fun q hq => absurd (show q ∈ ([] : List (Addr × Obj)) ++ [] from hq) (by simp)⟩
  have loop : codeAny (model X.prog X.w) X.A (.compLoop (.DictComp kx vx [⟨tg, iter, ifs, 0⟩] scope pos) 0 (.ref ita) (.ref D) ce) (compPost (model X.prog X.w) X.A X.xe use Qf (.ref D) sc.heap.objs.size) se := by
    refine compLoop_anyD (fun m s' => ∃ i H', Inv (X.blk sc Hc scope ce fp) [] (wipe σ (own.map (·.2))) H' s' ∧ tn i s'.heap ∧ (∀ b ∈ fp, H' b = none) ∧ W i m H') ?_ m0 ⟨0, Hc, start, tne, fun b hb => (fpc b hb).1.1, w0⟩
    rintro m sf ⟨i, Hf, If, tf, nf, wf⟩
    rcases turns i m Hf wf with ⟨stop, fin⟩ | ⟨go, Nx, less, turn⟩
    · refine thnF (T.done (X.blk sc Hc scope ce fp) rfl rfl rfl calm i [] sf _ Hf (fun _ _ => False) If (still If nf) tf stop) fun r sg ⟨hr, Ig⟩ => ?_
      subst hr
      have back : Inv X pins σ Hf sg := lay.call' (ch := fp) Ig.os Ig.base Ig.hok Ig.bare fun b hb => by
        obtain ⟨⟨_, q1, _, q3, q4, q5⟩, _⟩ := fpc b hb
        exact ⟨q3, q1, q4, q5⟩
      have free : Hf sc.heap.objs.size = none := by rw [← lc]; exact Ig.free
      obtain ⟨mL, ns, _⟩ := Ig.loc
      exact ends D sc.heap.objs.size sg mL Hf back fin (by rw [← lc]; exact ns) (lay.fpOk (Nat.le_refl _) free)
    · refine thnF (T.item (X.blk sc Hc scope ce fp) rfl rfl rfl calm i [] sf _ Hf (fun _ _ => False) If (still If nf) tf go) fun r sg ⟨u, hr, hg⟩ => ?_
      subst hr
      refine thnF hg fun _ sh ⟨x, Hh, Ih, rx, yl, th, nh⟩ => ?_
      have Ip := Ih.pinned (still Ih nh) (T.obj _ _ th)
      refine thnF (kg.run _ sh _ Hh x u _ Ip rx (turn x Hh yl)) fun _ si ⟨σi, Hi, Ii, wi2, qi⟩ => ?_
      refine thnF (kt.run _ si σi Hi _ Ii qi) fun b sj ⟨Hj, Ij, qj⟩ => ?_
      have closeTurn : ∀ {s' : Shared} {H' : Hp}, Inv (X.blk sc Hc scope ce fp) ([] ++ pinsAt fp sh.heap) σi H' s' → Nx H' →
          ∃ j, j < m ∧ ∃ i' H2, Inv (X.blk sc Hc scope ce fp) [] (wipe σ (own.map (·.2))) H2 s' ∧ tn i' s'.heap ∧ (∀ b ∈ fp, H2 b = none) ∧ W i' j H2 := by
        intro s' H' I' nx
        obtain ⟨j, lt, wj⟩ := less H' nx
        have stay : ∀ b ∈ fp, ∀ o, sh.heap.get? b = some o → s'.heap.get? b = some o ∧ H' b = none := fun b hb o e => by
          have z := I'.pin (b, o) (List.mem_append_right _ (List.mem_append_right _ (mem_pinsAt hb e)))
          exact ⟨z.1, z.2.1⟩
        refine ⟨j, lt, i + 1, H', (I'.unpinned (pins := [])).weak (by rw [← wi2, wipe_length]) (fun n v e => ?_), T.keep _ _ _ th fun b hb o e => (stay b hb o e).1, fun b hb => ?_, wj⟩
        · rw [← wi2] at e
          exact (wipe_some e).1
        · obtain ⟨o, e, _⟩ := T.obj _ _ th b hb
          exact (stay b hb o e).2
      cases b with
      | false =>
        rw [if_neg Bool.false_ne_true] at qj ⊢
        exact closeTurn Ij qj
      | true =>
        rw [if_pos rfl] at qj ⊢
        refine thnF (kk.run _ sj σi Hj _ Ij qj) fun ku sk ⟨ky, Hk, Ik, rk, qk⟩ => ?_
        refine thnF (kv.run _ sk σi Hk _ Ik qk) fun vu sl ⟨vy, Hl, Il, rl, ks, k, a, eky, evy, eD2, small, dp, isk, kat, nx⟩ => ?_
        subst eky evy
        obtain rfl : ku = Value.ref a := rk
        obtain rfl : vu = Value.bool true := rl
        exact put_ord (X := X.blk sc Hc scope ce fp) hu Il eD2 kat small dp isk fun sm Im => closeTurn Im nx
  exact codeAny_compStart_dict loop (T.self X.A 0 _ _ _ tne loop)
theorem pe_ord {kx vx tg iter : Expr} {ifs : List Expr} {scope : Scope} {own : List (Str × Nat)} {pos : Pos} {wi : TI} {g : TG} {tt : TT} {tk tv : TE} (calm : X.calm = true) (hu : X.A.units + 8 < cLine) (nd : X.N.Nodup) (it : PI X tg iter wi) (bo : BlkOk X.N X.env.scope scope own)
    (pg : ∀ (s : Shared) (H : Hp) (C : Addr) (cl : List (Str × Addr)) (fp : List Addr), PG (X.blk s H scope (compEnvC scope cl C X.env) fp) tg g) (pt : ∀ (s : Shared) (H : Hp) (C : Addr) (cl : List (Str × Addr)) (fp : List Addr), PTs (X.blk s H scope (compEnvC scope cl C X.env) fp) ifs tt)
    (pk : ∀ (s : Shared) (H : Hp) (C : Addr) (cl : List (Str × Addr)) (fp : List Addr), PE (X.blk s H scope (compEnvC scope cl C X.env) fp) kx tk)
    (pv : ∀ (s : Shared) (H : Hp) (C : Addr) (cl : List (Str × Addr)) (fp : List Addr), PE (X.blk s H scope (compEnvC scope cl C X.env) fp) vx tv) (fold : ∀ x, foldedSetIterable iter X.env x = pure x := by intro _; rfl) :
    PE X (.DictComp kx vx [⟨tg, iter, ifs, 0⟩] scope pos) (tOrd X.prog X.w wi g tt tk tv (own.map (·.2))) := by
  refine ⟨fun pins s σ H Q I asked => ?_⟩
  rw [arm_eval_DictComp]
  refine ord_core calm hu nd I it bo pg pt pk pv fold asked fun D C s' m H' I' q ns f => ⟨m, ns, fun h2 sb2 => ?_⟩
  obtain ⟨p0, p1, p2, p3, p4, p5⟩ := f
  exact ⟨.ref D, H', I'.turned (t' := s'.toks) (fun b o ne e => (sb2.2 b ne).trans e) p0 p1 p3 p4 p5, rfl, q⟩
/-- y = {k: True for ..} -/
theorem ps_setOrd {i : Nat} {y : Str} {py spos : Pos} {kx vx tg iter : Expr} {ifs : List Expr} {scope : Scope} {own : List (Str × Nat)} {pos : Pos} {wi : TI} {g : TG} {tt : TT} {tk tv : TE} (calm : X.calm = true) (hu : X.A.units + 8 < cLine) (nd : X.N.Nodup) (hy : X.N[i]? = some y) (lo : X.env.scope.names.lookup y = some .local)
    (sw : swapsWith (.DictComp kx vx [⟨tg, iter, ifs, 0⟩] scope pos) (some (.Name y py)) spos.line X.env = pure true) (it : PI X tg iter wi) (bo : BlkOk X.N X.env.scope scope own)
    (pg : ∀ (s : Shared) (H : Hp) (C : Addr) (cl : List (Str × Addr)) (fp : List Addr), PG (X.blk s H scope (compEnvC scope cl C X.env) fp) tg g) (pt : ∀ (s : Shared) (H : Hp) (C : Addr) (cl : List (Str × Addr)) (fp : List Addr), PTs (X.blk s H scope (compEnvC scope cl C X.env) fp) ifs tt)
    (pk : ∀ (s : Shared) (H : Hp) (C : Addr) (cl : List (Str × Addr)) (fp : List Addr), PE (X.blk s H scope (compEnvC scope cl C X.env) fp) kx tk)
    (pv : ∀ (s : Shared) (H : Hp) (C : Addr) (cl : List (Str × Addr)) (fp : List Addr), PE (X.blk s H scope (compEnvC scope cl C X.env) fp) vx tv) (fold : ∀ x, foldedSetIterable iter X.env x = pure x := by intro _; rfl) :
    PS X (.Assign [.Name y py] (.DictComp kx vx [⟨tg, iter, ifs, 0⟩] scope pos) spos) (tAsg (tOrd X.prog X.w wi g tt tk tv (own.map (·.2))) (gName i)) := by
  refine ⟨fun pins s σ H D0 I h => ?_⟩
  rw [exec_Assign_Name_used _ _ _ _ sw]
  refine wpAny_bind (wpAny_standAt (wpAny_bind ?_))
  show wpAny _ X.A (comprehension (.DictComp kx vx [⟨tg, iter, ifs, 0⟩] scope pos) scope X.env (firstIterPos [⟨tg, iter, ifs, 0⟩] pos) newDict false (eval iter X.env) (some (assign (.Name y py) X.env)) >>= _) _ _ s
  have asked : tOrd X.prog X.w wi g tt tk tv (own.map (·.2)) σ H (fun x H1 => gName i x σ H1 D0.nx) := h
  refine wpAny_bind (thn (ord_core (Qf := fun _ s2 => SP X pins D0 .next s2) calm hu nd I it bo pg pt pk pv fold asked fun D C s1 m H1 I1 q ns f => ?_) fun _ s2 hq => wpAny_pure (wpAny_pure hq))
  show wpAny _ _ (assign (.Name y py) X.env (.ref D)) _ _ _
  refine wpAny_assign_Name (store_ok2 (v := V.ref D) I1 nd hy (.inl lo) rfl (fun s2 I2 side => ?_) (.inr lo))
  obtain ⟨a, sb, ha⟩ := side
  obtain ⟨p0, p1, p2, p3, p4, p5⟩ := f
  have ne : C ≠ a := by
    cases ha with
    | inl z =>
      rw [z]
      exact p1
    | inr z => exact fun e => p4 y a z e.symm
  exact ⟨m, ns.sameBut sb ne, fun h3 sb3 => ⟨_, H1, I2.turned (t' := s2.toks) (fun b o hb e => (sb3.2 b hb).trans e) p0 p1 p3 p4 p5, q⟩⟩
end
end Tl

set_option autoImplicit false
set_option maxErrors 4
/-! tuple(d), d a dict of nested tuple keys. -/
namespace Tl
open PySem PySem.Spec PyProof.Rows L2
section
open PySem.Calls PySem.W
variable {prog : Program} {w : World} {A : Around} {E : Value → Shared → Prop} {s : Shared} {r d : Addr} {n : Nat} {Pd : Nat → Value → Prop} {OK : Heap → Prop}
/-- tuple(x), x walked as KdlSrc says -/
theorem tuple_src {Q : Value → Shared → Prop} (S : PySem.W.KdlSrc prog w "dict" r d n Pd OK) (calm : A.handled = none) (ok : OK s.heap) (small : n ≤ sizeLine)
    (q : ∀ (hp : Heap) (tk : Nat) (acc : Array Value), (∀ b o, s.heap.get? b = some o → hp.get? b = some o) → ItemsOf Pd acc n → Q (.ref hp.objs.size) { s with heap := hp.push { cls := .type "tuple", data := .seq acc }, toks := tk }) :
    wpAny (model prog w) A (call (.type "tuple") [.ref r]) Q E s := by
  have is : s.TypeIs (.ref r) "dict" := S.type s ok
  have calm2 : A.in1.in1.handled = none := calm
  refine callType_codes (Q₁ := fun u s2 => s2.TypeIs u "tuple" ∧ Q u s2) PySem.F.called_tuple (PySem.F.typeCall_tuple_1 _) PySem.F.entry_object_init (codeAny_of_tree ?_) fun u s2 hu =>
    ⟨hu.1, PySem.F.args_object_init_2 u _, object_init_meets PySem.F.called_tuple.init.lookup PySem.F.called_tuple.made (by decide) prog w A.in1 _ s2 ⟨hu.1, rfl, hu.2⟩⟩
  show wpAny _ _ (checkBuiltinCall "tuple.__new__" _ >>= fun _ => again _) _ _ s
  refine wpAny_bind (wpAny_of_eq (PySem.F.newCall_tuple_1 _) (wpAny_pure ⟨plainId_quiet PySem.F.plain_tuple_new _, codeAny_builtin PySem.F.entry_tuple_new ?_⟩))
  rw [Around.under_plainId PySem.F.plain_tuple_new _]
  have f1 := sub_tuple_self
  have f2 := init_tuple_lookup
  have f3 := madeHere_tuple
  wp_walk using wpAny_typeOf is, kdu_collect (A := A.in1.in1) S calm2 ok small
  intro hp tk acc keep all
  show wpAny _ _ (Builtin.Tuple.tupleExact acc.toList.toArray >>= ret) _ _ _
  rw [Array.toArray_toList]
  unfold Builtin.Tuple.tupleExact
  refine wpAny_bind (wpAny_newObj_type (wpAny_pure ⟨⟨_, Heap.get?_push_size _ rfl, rfl⟩, q hp tk acc keep all⟩) ?_)
  show acc.size ≤ sizeLine
  rw [all.1]
  exact small
end
theorem vals_addrs : ∀ bs : List Addr, Vals (bs.map V.ref) (bs.map Value.ref)
  | [] => .nil
  | _ :: bs => .cons rfl (vals_addrs bs)
theorem call_tupOrd {X : Cx} (calm : X.calm = true) : CallR X (.type "tuple") (fun xs H Q => ∃ (D : Addr) (ks : Ks), xs = [.ref D] ∧ H D = some (ordO X.prog X.w D ks) ∧ ∀ p, H p = none → Q (.ref p) (upd H p (.tup ((ks.map (·.2)).map V.ref)))) := by
  intro pins s σ H xs us Q I r h
  obtain ⟨D, ks, rfl, e, q⟩ := h
  obtain ⟨u, rfl, rx⟩ := r.one
  cases rx
  obtain ⟨z, ns, _, o, es, ep, g, ex, dt, l⟩ := ordO_at I.hok e
  have raw : s.heap.DictRaw D es ep := ⟨o, g, ex, dt⟩
  have len : es.size = ks.length := by
    have y := congrArg List.length l
    unfold rowsO at y
    simpa using y
  refine tuple_src (PySem.KdlSrc.rawDict ns) (I.ok.hd calm) raw (by rw [len]; exact z) fun hp tk acc keep all => ?_
  have ea : acc.toList = (ks.map (·.2)).map Value.ref := by
    apply List.ext_getElem?
    intro j
    have alen : acc.toList.length = ks.length := by rw [Array.length_toList, all.1, len]
    rw [List.map_map, List.getElem?_map]
    cases hj : acc.toList[j]? with
    | none =>
      have h1 := List.getElem?_eq_none_iff.mp hj
      rw [List.getElem?_eq_none (by omega)]
      rfl
    | some v =>
      obtain ⟨hi, rfl⟩ := all.2 j v (by rw [← Array.getElem?_toList]; exact hj)
      have hk : j < ks.length := by omega
      have e1 : es.toList[j]? = some es[j] := by rw [Array.getElem?_toList, Array.getElem?_eq_getElem hi]
      rw [l] at e1
      unfold rowsO at e1
      rw [List.map_map, List.getElem?_map, List.getElem?_eq_getElem hk] at e1
      have e2 := Option.some.inj e1
      rw [List.getElem?_eq_getElem hk, ← e2]
      rfl
  have rv : Vals ((ks.map (·.2)).map V.ref) acc.toList := by rw [ea]; exact vals_addrs _
  have J : Inv X pins σ H { s with heap := hp, toks := tk } := I.kept (t' := tk) keep
  refine ⟨.ref hp.objs.size, _, J.laid (t' := tk) (o := .tup ((ks.map (·.2)).map V.ref)) (fun b o e => Heap.get?_push_of_some _ e) (Nat.le_refl _) ⟨by rw [List.length_map, List.length_map]; exact z, acc.toList, rv, ?_⟩, rfl, q _ (J.hok.fresh (Nat.le_refl _))⟩
  rw [Array.toArray_toList]
  exact IsTup.new _ _
theorem ord_it {P : Program} {w : World} {J : It} {n : Nat} {G : Hp → Prop} {Y : Nat → Hp → V → Hp → Prop} (wk : Walk J n G Y) {g : TG} {tt : TT} {tk tv : TE} {vs : List Nat} {σ : L2.St} {H1 : Hp} {D : Addr} {Qd : Hp → Prop} (Pv : Nat → Hp → Prop) (h0 : Pv 0 (upd H1 D (ordO P w D []))) (hG : ∀ i H, i ≤ n → Pv i H → G H)
    (hs : ∀ i x H H', i < n → Pv i H → Y i H x H' → ordTurn P w g tt tk tv vs σ D (Pv (i + 1)) x H') (hd : ∀ H, Pv n H → Qd H) :
    ∃ W : Nat → Nat → Hp → Prop, (∃ m, W 0 m (upd H1 D (ordO P w D []))) ∧ ∀ i m H, W i m H → (J.stop i H ∧ Qd H) ∨ (J.go i H ∧ ∃ Nx : Hp → Prop, (∀ H3, Nx H3 → ∃ j, j < m ∧ W (i + 1) j H3) ∧ ∀ x H3, J.yld i H x H3 → ordTurn P w g tt tk tv vs σ D Nx x H3) := by
  refine ⟨fun i m H => m = n - i ∧ i ≤ n ∧ Pv i H, ⟨n, rfl, Nat.zero_le _, h0⟩, fun i m H z => ?_⟩
  obtain ⟨rfl, hi, p⟩ := z
  rcases Nat.lt_or_ge i n with lt | ge
  · exact .inr ⟨wk.goes i H lt (hG i H hi p), Pv (i + 1), fun H' p' => ⟨n - (i + 1), by omega, rfl, lt, p'⟩, fun x H' y => hs i x H H' lt p (wk.yields i H x H' lt (hG i H hi p) y)⟩
  · obtain rfl : i = n := Nat.le_antisymm hi ge
    exact .inl ⟨wk.stops H (hG i H hi p), hd H p⟩
end Tl

set_option autoImplicit false
set_option maxErrors 4
/-! [e for x in xs for y in ys] by walks. -/
namespace Tl
open PySem PySem.Spec PyProof.Rows L2
section
variable {J : It} {n : Nat} {G : Hp → Prop} {Y : Nat → Hp → V → Hp → Prop}
/-- the inner one: its turns go on from the heap that it finds -/
theorem in_it (w : Walk J n G Y) {g : TG} {tt : TT} {te : TE} {vs : List Nat} {σ : L2.St} {H0 : Hp} {D : Addr} {Nx : Hp → Prop} (Pv : Nat → Hp → Prop) (h0 : Pv 0 H0) (hG : ∀ j H, j ≤ n → Pv j H → G H)
    (hs : ∀ j x H H', j < n → Pv j H → Y j H x H' → g x (wipe σ vs) H' fun σ3 H5 => wipe σ3 vs = wipe σ vs ∧ tt σ3 H5 fun b H6 =>
      if b = true then te σ3 H6 fun y H7 => ∃ acc, H7 D = some (.lst acc) ∧ acc.length < sizeLine ∧ Pv (j + 1) (upd H7 D (.lst (acc ++ [y]))) else Pv (j + 1) H6) (hd : ∀ H, Pv n H → Nx H) :
    ∃ W1 : Nat → Nat → Hp → Prop, (∃ m, W1 0 m H0) ∧ ∀ j k H, W1 j k H → (J.stop j H ∧ Nx H) ∨ (J.go j H ∧ ∃ Nx1 : Hp → Prop, (∀ H', Nx1 H' → ∃ k', k' < k ∧ W1 (j + 1) k' H') ∧ ∀ x H', J.yld j H x H' → g x (wipe σ vs) H' fun σ3 H5 => wipe σ3 vs = wipe σ vs ∧ tt σ3 H5 fun b H6 =>
        if b = true then te σ3 H6 fun y H7 => ∃ acc, H7 D = some (.lst acc) ∧ acc.length < sizeLine ∧ Nx1 (upd H7 D (.lst (acc ++ [y]))) else Nx1 H6) := by
  refine ⟨fun j k H => k = n - j ∧ j ≤ n ∧ Pv j H, ⟨n, rfl, Nat.zero_le _, h0⟩, fun j k H z => ?_⟩
  obtain ⟨rfl, hj, p⟩ := z
  rcases Nat.lt_or_ge j n with lt | ge
  · exact .inr ⟨w.goes j H lt (hG j H hj p), Pv (j + 1), fun H' p' => ⟨n - (j + 1), by omega, rfl, lt, p'⟩, fun x H' y => hs j x H H' lt p (w.yields j H x H' lt (hG j H hj p) y)⟩
  · obtain rfl : j = n := Nat.le_antisymm hj ge
    exact .inl ⟨w.stops H (hG j H hj p), hd H p⟩
/-- the outer one -/
theorem out_it (w : Walk J n G Y) {g : TG} {tt : TT} {wi1 : TI} {g1 : TG} {tt1 : TT} {te : TE} {vs vs1 : List Nat} {σ : L2.St} {H1 : Hp} {D : Addr} {Qd : Hp → Prop} (Pv : Nat → Hp → Prop) (h0 : Pv 0 (upd H1 D (.lst []))) (hG : ∀ i H, i ≤ n → Pv i H → G H)
    (hs : ∀ i x H H', i < n → Pv i H → Y i H x H' → g x (wipe σ vs) H' fun σ2 H2 => wipe σ2 vs = wipe σ vs ∧ tt σ2 H2 fun b H3 =>
      if b = true then wi1 σ2 H3 fun J1 H4 => ∃ W1 : Nat → Nat → Hp → Prop, (∃ m, W1 0 m H4) ∧ ∀ j k H, W1 j k H →
        (J1.stop j H ∧ Pv (i + 1) H) ∨ (J1.go j H ∧ ∃ Nx1 : Hp → Prop, (∀ H', Nx1 H' → ∃ k', k' < k ∧ W1 (j + 1) k' H') ∧ ∀ x H', J1.yld j H x H' → g1 x (wipe σ2 vs1) H' fun σ3 H5 => wipe σ3 vs1 = wipe σ2 vs1 ∧ tt1 σ3 H5 fun b H6 =>
          if b = true then te σ3 H6 fun y H7 => ∃ acc, H7 D = some (.lst acc) ∧ acc.length < sizeLine ∧ Nx1 (upd H7 D (.lst (acc ++ [y]))) else Nx1 H6)
      else Pv (i + 1) H3) (hd : ∀ H, Pv n H → Qd H) :
    ∃ W : Nat → Nat → Hp → Prop, (∃ m, W 0 m (upd H1 D (.lst []))) ∧ ∀ i m H, W i m H →
      (J.stop i H ∧ Qd H) ∨ (J.go i H ∧ ∃ Nx : Hp → Prop, (∀ H', Nx H' → ∃ m', m' < m ∧ W (i + 1) m' H') ∧ ∀ x H', J.yld i H x H' → g x (wipe σ vs) H' fun σ2 H2 => wipe σ2 vs = wipe σ vs ∧ tt σ2 H2 fun b H3 =>
        if b = true then wi1 σ2 H3 fun J1 H4 => ∃ W1 : Nat → Nat → Hp → Prop, (∃ m, W1 0 m H4) ∧ ∀ j k H, W1 j k H →
          (J1.stop j H ∧ Nx H) ∨ (J1.go j H ∧ ∃ Nx1 : Hp → Prop, (∀ H', Nx1 H' → ∃ k', k' < k ∧ W1 (j + 1) k' H') ∧ ∀ x H', J1.yld j H x H' → g1 x (wipe σ2 vs1) H' fun σ3 H5 => wipe σ3 vs1 = wipe σ2 vs1 ∧ tt1 σ3 H5 fun b H6 =>
            if b = true then te σ3 H6 fun y H7 => ∃ acc, H7 D = some (.lst acc) ∧ acc.length < sizeLine ∧ Nx1 (upd H7 D (.lst (acc ++ [y]))) else Nx1 H6)
        else Nx H3) := by
  refine ⟨fun i m H => m = n - i ∧ i ≤ n ∧ Pv i H, ⟨n, rfl, Nat.zero_le _, h0⟩, fun i m H z => ?_⟩
  obtain ⟨rfl, hi, p⟩ := z
  rcases Nat.lt_or_ge i n with lt | ge
  · exact .inr ⟨w.goes i H lt (hG i H hi p), Pv (i + 1), fun H' p' => ⟨n - (i + 1), by omega, rfl, lt, p'⟩, fun x H' y => hs i x H H' lt p (w.yields i H x H' lt (hG i H hi p) y)⟩
  · obtain rfl : i = n := Nat.le_antisymm hi ge
    exact .inl ⟨w.stops H (hG i H hi p), hd H p⟩
end
end Tl

set_option autoImplicit false
set_option maxErrors 4
namespace K04
open PySem PySem.Spec PyProof.Rows L2 Tl
/-! ### alternatives: rows of runs -/
abbrev RunL := Str × Nat × Option Nat
abbrev RowL := List RunL
def mostK (m : Option Nat) : NestedKey := m.elim .none fun n => .num (n : Nat)
def runK (r : RunL) : NestedKey := .tup [.text r.1, .num (r.2.1 : Nat), mostK r.2.2]
def rowK (r : RowL) : NestedKey := .tup (r.map runK)
theorem mostK_inj {a b : Option Nat} (h : mostK a = mostK b) : a = b := by
  cases a with
  | none =>
    cases b with
    | none => rfl
    | some n => cases h
  | some n =>
    cases b with
    | none => cases h
    | some k =>
      injection h with h
      rw [Int.ofNat.inj h]
theorem runK_inj {a b : RunL} (h : runK a = runK b) : a = b := by
  unfold runK at h
  injection h with h
  injection h with h1 h
  injection h with h2 h
  injection h with h3 _
  injection h1 with h1
  injection h2 with h2
  obtain ⟨a1, a2, a3⟩ := a
  obtain ⟨b1, b2, b3⟩ := b
  dsimp only at h1 h2 h3
  rw [h1, Int.ofNat.inj h2, mostK_inj h3]
theorem map_runK_inj : ∀ {a b : RowL}, a.map runK = b.map runK → a = b
  | [], [], _ => rfl
  | [], _ :: _, h => by cases h
  | _ :: _, [], h => by cases h
  | x :: a, y :: b, h => by
    injection h with h1 h2
    rw [runK_inj h1, map_runK_inj h2]
theorem rowK_inj {a b : RowL} (h : rowK a = rowK b) : a = b := by
  unfold rowK at h
  injection h with h
  exact map_runK_inj h
theorem runK_depth (r : RunL) : (runK r).depth = 1 := by
  obtain ⟨s, l, m⟩ := r
  cases m <;> rfl
theorem rowK_depth (r : RowL) : (rowK r).depth ≤ 2 := by
  have e : ∀ r : RowL, NestedKey.depthAll (r.map runK) ≤ 1 := by
    intro r
    induction r with
    | nil => exact Nat.zero_le _
    | cons x r ih =>
      rw [List.map_cons, NestedKey.depthAll, runK_depth]
      omega
  unfold rowK
  rw [NestedKey.depth]
  have := e r
  omega
/-- alternatives, each where it stands -/
abbrev Rws := List (RowL × Addr)
def rowsV (rs : Rws) : List V := rs.map fun x => V.ref x.2
def RowsAt (H : Hp) (rs : Rws) : Prop := ∀ x ∈ rs, NkV H (rowK x.1) (.ref x.2)
theorem RowsAt.same {H H' : Hp} {rs : Rws} (h : RowsAt H rs) (s : Same H H') : RowsAt H' rs := fun x hx => (h x hx).same s
def putR (rs : Rws) (x : RowL × Addr) : Rws := if x.1 ∈ rs.map (·.1) then rs else rs ++ [x]
def onceR (rs : Rws) : Rws := rs.foldl putR []
def keysR (rs : Rws) : Ks := rs.map fun x => (rowK x.1, x.2)
theorem keysR_put (rs : Rws) (x : RowL × Addr) : putO (keysR rs) (rowK x.1) x.2 = keysR (putR rs x) := by
  have e : (rowK x.1 ∈ (keysR rs).map (·.1)) ↔ x.1 ∈ rs.map (·.1) := by
    unfold keysR
    rw [List.map_map, List.mem_map, List.mem_map]
    constructor
    · rintro ⟨y, hy, h⟩
      exact ⟨y, hy, rowK_inj h⟩
    · rintro ⟨y, hy, h⟩
      exact ⟨y, hy, congrArg rowK h⟩
  unfold putO putR
  by_cases m : x.1 ∈ rs.map (·.1)
  · rw [if_pos (e.mpr m), if_pos m]
  · rw [if_neg (fun z => m (e.mp z)), if_neg m]
    unfold keysR
    rw [List.map_append]
    rfl
theorem putR_length (rs : Rws) (x : RowL × Addr) : (putR rs x).length ≤ rs.length + 1 := by
  unfold putR
  split <;> simp
theorem onceR_take_len (rs : Rws) : ∀ i, ((rs.take i).foldl putR []).length ≤ i := by
  intro i
  induction i with
  | zero => exact Nat.le_refl _
  | succ i ih =>
    by_cases h : i < rs.length
    · rw [fold_take putR [] rs (List.getElem?_eq_getElem h)]
      have := putR_length ((rs.take i).foldl putR []) rs[i]
      omega
    · rw [List.take_of_length_le (by omega)]
      rw [List.take_of_length_le (by omega)] at ih
      omega
theorem putR_sub {rs : Rws} {x y : RowL × Addr} (h : y ∈ putR rs x) : y ∈ rs ∨ y = x := by
  unfold putR at h
  split at h
  · exact .inl h
  · exact (List.mem_append.mp h).imp id List.mem_singleton.mp
theorem onceR_sub {rs : Rws} : ∀ y ∈ onceR rs, y ∈ rs := by
  have key : ∀ (xs acc : Rws), ∀ y ∈ xs.foldl putR acc, y ∈ acc ∨ y ∈ xs := by
    intro xs
    induction xs with
    | nil => exact fun acc y h => .inl h
    | cons x xs ih =>
      intro acc y h
      rcases ih _ y h with h | h
      · rcases putR_sub h with h | h
        · exact .inl h
        · exact .inr (by rw [h]; exact List.mem_cons_self)
      · exact .inr (List.mem_cons_of_mem _ h)
  intro y h
  exact (key rs [] y h).elim (fun z => by cases z) id
section
variable {P : Program} {w : World} {K : PySem.W.Frag} {mg : Str → Option Value} {base : Heap}
def spWr : Sp := fun vs H Q _ => ∃ (l : Addr) (rs : Rws), vs = [.ref l] ∧ (H l = some (.lst (rowsV rs)) ∨ H l = some (.tup (rowsV rs))) ∧ RowsAt H rs ∧ rs.length ≤ 1000 ∧ ∀ t H', Same H H' → H t = none → H' t = some (.tup (rowsV (onceR rs))) → Q (.ref t) H'
set_option maxHeartbeats 20000000 in
theorem ok_without {f : Addr} {fd : FuncData} (F : FnP K "without_repeats" "without_repeats" s_without_repeats f fd) (N : Nms mg) : FnOk P w K mg base CX0 1 f fd ["rows"] spWr := by
  have nd := sc_without_repeats.nd
  refine F.ok sc_without_repeats (fun vs H Q E h => ?_) (fun cdv A outer s H vs Q E hr h => ?_)
  · obtain ⟨l, rs, rfl, _⟩ := h
    rfl
  · obtain ⟨l, rs, rfl, hl, at_, len, q⟩ := h
    have hu : (A.deeper (envOfC "without_repeats" (defScope s_without_repeats) s.heap.objs.size f cdv)).units + 8 < cLine := by have := hr.un; omega
    refine ⟨_, PSs.nox (pss_cons (ps_setOrd (i := 2) (own := [("row", 1)]) (g := gName 1) (tt := tYes) rfl hu nd rfl rfl rfl (pi_seq (pv 0)) (blkOk_by (N := ["rows", "row", "kept"]) (sc := defScope s_without_repeats) (by decide +kernel))
        (fun _ _ _ _ _ => pg_name (i := 1) nd rfl (Or.inl rfl)) (fun _ _ _ _ _ => pts_nil) (fun _ _ _ _ _ => pv 1) (fun _ _ _ _ _ => pe_bl))
      (pss_one (ps_ret (pe_callTy (call_tupOrd rfl) (by rfl) N.tuple (by decide +kernel) (pa_cons (pv 2) pa_nil))))), ?_⟩
    have lenV : (rowsV rs).length = rs.length := List.length_map _
    rcases hl with hl | hl
    · refine ⟨_, rfl, l, rfl, .inl ⟨⟨_, SqL.of hl⟩, fun D hD => ?_⟩⟩
      have nDl : l ≠ D := ne_of_none hl hD
      refine ord_it (n := rs.length) (by rw [← lenV]; exact walk_list) (fun i H' => H' D = some (ordO P w D (keysR ((rs.take i).foldl putR []))) ∧ ∀ b o, H b = some o → H' b = some o) ⟨upd_same, fun b o z => by rw [upd_ne (ne_of_none z hD)]; exact z⟩ (fun i H' _ h => SqL.of (h.2 _ _ hl)) ?_ ?_
      · rintro i x _ H2 hi ⟨e, kp⟩ ⟨rfl, hx⟩
        have hx2 : (rowsV rs)[i]? = some (.ref rs[i].2) := by
          unfold rowsV
          rw [List.getElem?_map, List.getElem?_eq_getElem hi]
          rfl
        have ex : x = .ref rs[i].2 := by
          rw [hx2] at hx
          exact (Option.some.inj hx).symm
        subst ex
        refine ⟨rfl, yes_keep ?_⟩
        have low := onceR_take_len rs i
        have same2 : Same H H2 := kp
        have kat : KeysAt H2 (keysR ((rs.take i).foldl putR [])) := fun y hy => by
          unfold keysR at hy
          obtain ⟨z, hz, rfl⟩ := List.mem_map.mp hy
          have zin : z ∈ rs := List.mem_of_mem_take (onceR_sub z hz)
          exact ⟨Nat.le_trans (rowK_depth _) (by decide), (at_ z zin).same same2⟩
        refine ⟨_, rfl, keysR ((rs.take i).foldl putR []), rowK rs[i].1, rs[i].2, rfl, rfl, e, ?_, Nat.le_trans (rowK_depth _) (by decide), (at_ _ (List.getElem_mem hi)).same same2, kat, ?_⟩
        · unfold keysR
          rw [List.length_map]
          exact small1000 (by omega)
        · rw [keysR_put, ← fold_take putR [] rs (List.getElem?_eq_getElem hi)]
          exact ⟨upd_same, fun b o z => by rw [upd_ne (ne_of_none z hD)]; exact kp b o z⟩
      · rintro H2 ⟨e, kp⟩
        rw [List.take_of_length_le (Nat.le_refl _)] at e
        refine name_go ?_
        dsimp only
        refine ⟨_, rfl, D, _, rfl, e, fun t ht => ?_⟩
        have same2 : Same H H2 := kp
        refine q t _ (same2.trans (same_new ht)) (same2.free ht) ?_
        rw [upd_same]
        unfold keysR rowsV onceR
        rw [List.map_map, List.map_map]
        rfl
    · refine ⟨_, rfl, l, rfl, .inr ⟨⟨_, SqT.of hl⟩, fun D hD => ?_⟩⟩
      have nDl : l ≠ D := ne_of_none hl hD
      refine ord_it (n := rs.length) (by rw [← lenV]; exact walk_tup) (fun i H' => H' D = some (ordO P w D (keysR ((rs.take i).foldl putR []))) ∧ ∀ b o, H b = some o → H' b = some o) ⟨upd_same, fun b o z => by rw [upd_ne (ne_of_none z hD)]; exact z⟩ (fun i H' _ h => SqT.of (h.2 _ _ hl)) ?_ ?_
      · rintro i x _ H2 hi ⟨e, kp⟩ ⟨rfl, hx⟩
        have hx2 : (rowsV rs)[i]? = some (.ref rs[i].2) := by
          unfold rowsV
          rw [List.getElem?_map, List.getElem?_eq_getElem hi]
          rfl
        have ex : x = .ref rs[i].2 := by
          rw [hx2] at hx
          exact (Option.some.inj hx).symm
        subst ex
        refine ⟨rfl, yes_keep ?_⟩
        have low := onceR_take_len rs i
        have same2 : Same H H2 := kp
        have kat : KeysAt H2 (keysR ((rs.take i).foldl putR [])) := fun y hy => by
          unfold keysR at hy
          obtain ⟨z, hz, rfl⟩ := List.mem_map.mp hy
          have zin : z ∈ rs := List.mem_of_mem_take (onceR_sub z hz)
          exact ⟨Nat.le_trans (rowK_depth _) (by decide), (at_ z zin).same same2⟩
        refine ⟨_, rfl, keysR ((rs.take i).foldl putR []), rowK rs[i].1, rs[i].2, rfl, rfl, e, ?_, Nat.le_trans (rowK_depth _) (by decide), (at_ _ (List.getElem_mem hi)).same same2, kat, ?_⟩
        · unfold keysR
          rw [List.length_map]
          exact small1000 (by omega)
        · rw [keysR_put, ← fold_take putR [] rs (List.getElem?_eq_getElem hi)]
          exact ⟨upd_same, fun b o z => by rw [upd_ne (ne_of_none z hD)]; exact kp b o z⟩
      · rintro H2 ⟨e, kp⟩
        rw [List.take_of_length_le (Nat.le_refl _)] at e
        refine name_go ?_
        dsimp only
        refine ⟨_, rfl, D, _, rfl, e, fun t ht => ?_⟩
        have same2 : Same H H2 := kp
        refine q t _ (same2.trans (same_new ht)) (same2.free ht) ?_
        rw [upd_same]
        unfold keysR rowsV onceR
        rw [List.map_map, List.map_map]
        rfl
end
end K04

set_option autoImplicit false
set_option maxErrors 4
namespace K04
open PySem PySem.Spec PyProof.Rows L2 Tl
def RunAt (H : Hp) (b : Addr) (r : RunL) : Prop := H b = some (.tup [.str r.1, .int (r.2.1 : Nat), mostV r.2.2])
theorem mostK_v {H : Hp} {m : Option Nat} {v : V} (h : NkV H (mostK m) v) : v = mostV m := by
  cases m with
  | none =>
    cases h
    rfl
  | some n =>
    cases h
    rfl
theorem mostK_is {H : Hp} (m : Option Nat) : NkV H (mostK m) (mostV m) := by
  cases m with
  | none => exact .non
  | some n => exact .int _
theorem run_at {H : Hp} {r : RunL} {v : V} (h : NkV H (runK r) v) : ∃ b, v = .ref b ∧ RunAt H b r := by
  unfold runK at h
  cases h with
  | tup e al =>
    cases al with
    | cons x1 al =>
      cases al with
      | cons x2 al =>
        cases al with
        | cons x3 al =>
          cases al
          cases x1
          cases x2
          have z := mostK_v x3
          subst z
          exact ⟨_, rfl, e⟩
theorem run_is {H : Hp} {b : Addr} {r : RunL} (h : RunAt H b r) : NkV H (runK r) (.ref b) := .tup h (.cons (.str _) (.cons (.int _) (.cons (mostK_is _) .nil)))
/-- the runs of an alternative, each where it stands -/
abbrev Rns := List (RunL × Addr)
def runsV (bs : Rns) : List V := bs.map fun x => V.ref x.2
theorem row_at {H : Hp} {r : RowL} {a : Addr} (h : NkV H (rowK r) (.ref a)) : ∃ bs : Rns, bs.map (·.1) = r ∧ H a = some (.tup (runsV bs)) ∧ ∀ x ∈ bs, RunAt H x.2 x.1 := by
  have key : ∀ (r : RowL) (vs : List V), NkAll H (r.map runK) vs → ∃ bs : Rns, bs.map (·.1) = r ∧ vs = runsV bs ∧ ∀ x ∈ bs, RunAt H x.2 x.1 := by
    intro r
    induction r with
    | nil =>
      intro vs h
      cases h
      exact ⟨[], rfl, rfl, fun x hx => by cases hx⟩
    | cons x r ih =>
      intro vs h
      cases h with
      | cons h1 h2 =>
        obtain ⟨b, rfl, hb⟩ := run_at h1
        obtain ⟨bs, e1, rfl, e3⟩ := ih _ h2
        refine ⟨(x, b) :: bs, by rw [List.map_cons, e1], rfl, fun y hy => ?_⟩
        rcases List.mem_cons.mp hy with rfl | hy
        · exact hb
        · exact e3 y hy
  unfold rowK at h
  cases h with
  | tup e al =>
    obtain ⟨bs, e1, rfl, e3⟩ := key _ _ al
    exact ⟨bs, e1, e, e3⟩
theorem row_is {H : Hp} {a : Addr} {bs : Rns} (h : H a = some (.tup (runsV bs))) (hb : ∀ x ∈ bs, RunAt H x.2 x.1) : NkV H (rowK (bs.map (·.1))) (.ref a) := by
  have key : ∀ bs : Rns, (∀ x ∈ bs, RunAt H x.2 x.1) → NkAll H ((bs.map (·.1)).map runK) (runsV bs) := by
    intro bs
    induction bs with
    | nil => exact fun _ => .nil
    | cons x r ih => exact fun h => .cons (run_is (h x List.mem_cons_self)) (ih fun y hy => h y (List.mem_cons_of_mem _ hy))
  exact .tup h (key bs hb)
def pcR (r : RunL) : Nat := pcL r.2.1 r.2.2
def placesR (r : RowL) : List Nat := r.map pcR
def placesRs (rs : Rws) : List Nat := rs.flatMap fun x => placesR x.1
/-- too many alternatives, runs, places -/
def tooLarge (rs : Rws) : Bool := decide (20 < rs.length) || (rs.any fun x => decide (20 < x.1.length)) || decide (120 < (placesRs rs).sum)
def rLenSeq (K : PySem.W.Frag) : List V → Hp → VK → Prop := fun xs H Q => ∃ p ys, xs = [V.ref p] ∧ (SqL K H p ys ∨ SqT K H p ys) ∧ Q (V.int (ys.length : Nat)) H
theorem sum_cast (xs : List Nat) : (xs.map fun x : Nat => (x : Int)).sum = ((xs.sum : Nat) : Int) := by
  induction xs with
  | nil => rfl
  | cons x r ih =>
    rw [List.map_cons, List.sum_cons, List.sum_cons, ih]
    push_cast
    rfl
/-- the bounds of the kinds, by their names -/
structure Cons (mg : Str → Option Value) : Prop where
  start : ∃ t, mg "START" = some (.int 1 t)
  alt : ∃ t, mg "MOST_ALTERNATIVES" = some (.int 20 t)
  runs : ∃ t, mg "MOST_RUNS" = some (.int 20 t)
  places : ∃ t, mg "MOST_PLACES" = some (.int 120 t)
  texts : ∃ t, mg "MOST_TEXTS" = some (.int 20 t)
  text : ∃ t, mg "LONGEST_TEXT" = some (.int 20 t)
  bound : ∃ t, mg "HIGHEST_BOUND" = some (.int 40 t)
  times : ∃ t, mg "MOST_OPERANDS" = some (.int 9 t)
theorem placesRs_len {rs : Rws} (h : ∀ x ∈ rs, x.1.length ≤ 20) : (placesRs rs).length ≤ rs.length * 20 := by
  unfold placesRs placesR
  induction rs with
  | nil => exact Nat.le_refl _
  | cons x r ih =>
    have h1 := h x List.mem_cons_self
    have h2 := ih fun y hy => h y (List.mem_cons_of_mem _ hy)
    rw [List.flatMap_cons, List.length_append, List.length_map, List.length_cons]
    omega
theorem placesRs_succ (rs : Rws) {i : Nat} (h : i < rs.length) : placesRs (rs.take (i + 1)) = placesRs (rs.take i) ++ placesR rs[i].1 := by
  unfold placesRs
  rw [List.take_add_one, List.getElem?_eq_getElem h, List.flatMap_append]
  simp
section
variable {P : Program} {w : World} {K : PySem.W.Frag} {mg : Str → Option Value} {base : Heap}
def spToo : Sp := fun vs H Q _ => ∃ (t : Addr) (rs : Rws), vs = [.ref t] ∧ H t = some (.tup (rowsV rs)) ∧ RowsAt H rs ∧ rs.length ≤ 1000 ∧ ∀ H', Same H H' → Q (.bl (tooLarge rs)) H'
set_option maxHeartbeats 20000000 in
theorem ok_too {f : Addr} {fd : FuncData} (F : FnP K "is_too_large" "is_too_large" s_is_too_large f fd) (N : Nms mg) (Co : Cons mg) (C : Can P w K mg base CX0 "place_count" ["least", "most"] 1 spPc) : FnOk P w K mg base CX0 2 f fd ["rows"] spToo := by
  obtain ⟨fC, fdC, GC, gC, kC, bC⟩ := C
  obtain ⟨tA, gA⟩ := Co.alt
  obtain ⟨tR, gR⟩ := Co.runs
  obtain ⟨tP, gP⟩ := Co.places
  have nd := sc_is_too_large.nd
  refine F.ok sc_is_too_large (fun vs H Q E h => ?_) (fun cdv A outer s H vs Q E hr h => ?_)
  · obtain ⟨t, rs, rfl, _⟩ := h
    rfl
  · obtain ⟨t, rs, rfl, ht, at_, len, q⟩ := h
    refine ⟨_, PSs.nox (pss_cons (ps_if (PW.pt (pw_or (pt_cmpR op_gt (pe_callB call_len_seq (by rfl) N.len PySem.boot_len (pa_cons (pv 0) pa_nil)) (pe_glob (v := .int 20) (by rfl) gA ⟨_, rfl⟩) (nomark _))
          (pw_or1 (pt_val (pe_callB (cr_any rfl) (by rfl) N.any (by decide +kernel) (pa_cons (pe_lc (own := [("row", 1)]) (g := gName 1) (tt := tYes) rfl nd (pi_tup (pv 0)) (blkOk_by (N := ["rows", "row", "signs", "least", "most"]) (sc := defScope s_is_too_large) (by decide +kernel))
            (fun _ _ _ _ _ => pg_name (i := 1) nd rfl (Or.inl rfl)) (fun _ _ _ _ _ => pts_nil) (fun _ _ _ _ _ => pe_cmpR op_gt (pe_callB (r := rLenSeq K) call_len_seq (by rfl) N.len PySem.boot_len (pa_cons (pv 1) pa_nil)) (pe_glob (v := .int 20) (by rfl) gR ⟨_, rfl⟩) (nomark _))) pa_nil))))))
        (pss_one (ps_ret pe_bl)) pss_nil)
      (pss_one (ps_ret (pe_cmpR op_gt (pe_callB (cr_sum rfl) (by rfl) N.sum (by decide +kernel) (pa_cons (pe_lc2 (own := [("row", 1), ("signs", 2), ("least", 3), ("most", 4)]) (vs1 := [2, 3, 4]) (g := gName 1) (tt := tYes) (wi1 := iTup K (tVar 1)) (g1 := gTup K 3 (gCons (gName 2) (gCons (gName 3) (gCons (gName 4) gNil)))) (tt1 := tYes) rfl nd (pi_tup (pv 0))
          (blkOk_by (N := ["rows", "row", "signs", "least", "most"]) (sc := defScope s_is_too_large) (by decide +kernel)) (by decide) (fun _ _ _ _ _ => pg_name (i := 1) nd rfl (Or.inl rfl)) (fun _ _ _ _ _ => pts_nil) (fun _ _ _ _ _ => pi_tup (pv 1))
          (fun _ _ _ _ _ => pg_tup rfl (pgs_cons (pg_name (i := 2) nd rfl (Or.inl rfl) (Or.inr rfl)) (pgs_cons (pg_name (i := 3) nd rfl (Or.inl rfl) (Or.inr rfl)) (pgs_cons (pg_name (i := 4) nd rfl (Or.inl rfl) (Or.inr rfl)) pgs_nil)))) (fun _ _ _ _ _ => pts_nil)
          (fun _ _ _ _ _ => pe_call GC hr (by rfl) gC kC bC .nil pass0 (pa_cons (pv 3) (pa_cons (pv 4) pa_nil)))) pa_nil)) (pe_glob (v := .int 120) (by rfl) gP ⟨_, rfl⟩) (nomark _))))), ?_⟩
    have lenV : (rowsV rs).length = rs.length := List.length_map _
    refine ⟨_, rfl, t, _, rfl, .inr (SqT.of ht), ?_⟩
    rw [lenV]
    refine ⟨_, _, rfl, rfl, _, rfl, ?_⟩
    have getV : ∀ {i : Nat} (hi : i < rs.length) {x : V}, (rowsV rs)[i]? = some x → x = .ref rs[i].2 := fun {i} hi {x} hx => by
      unfold rowsV at hx
      rw [List.getElem?_map, List.getElem?_eq_getElem hi] at hx
      exact (Option.some.inj hx).symm
    by_cases c1 : 20 < rs.length
    · have d1 : decide ((20 : Int) < ((rs.length : Nat) : Int)) = true := decide_eq_true (by omega)
      refine (if_pos d1).mpr ?_
      refine iteT ?_
      have e : tooLarge rs = true := by unfold tooLarge; simp [c1]
      rw [e] at q
      exact q H (Same.refl H)
    have d1 : ¬ decide ((20 : Int) < ((rs.length : Nat) : Int)) = true := by simp; omega
    refine (if_neg d1).mpr ?_
    refine ⟨_, rfl, t, rfl, ⟨_, SqT.of ht⟩, fun D hD => ?_⟩
    refine lc_it (n := rs.length) (by rw [← lenV]; exact walk_tup) (fun i H' => H' D = some (.lst ((rs.take i).map fun x => V.bl (decide (20 < x.1.length)))) ∧ Same H H') ⟨upd_same, same_new hD⟩ (fun i H' _ h => SqT.of (h.2 _ _ ht)) ?_ ?_
    · rintro i x _ H2 hi ⟨e, sm⟩ ⟨rfl, hx⟩
      have ex := getV hi hx
      subst ex
      obtain ⟨bs, e1, e2, _⟩ := row_at ((at_ _ (List.getElem_mem hi)).same sm)
      refine ⟨rfl, yes_keep ?_⟩
      refine ⟨_, rfl, rs[i].2, _, rfl, .inr (SqT.of e2), _, _, rfl, rfl, _, e, ?_, ?_, fun b o z => ?_⟩
      · rw [List.length_map, List.length_take]
        exact small1000 (by omega)
      · rw [upd_same, List.take_add_one, List.getElem?_eq_getElem hi, List.map_append]
        have el : (runsV bs).length = rs[i].1.length := by
          rw [← e1]
          unfold runsV
          rw [List.length_map, List.length_map]
        rw [el]
        have ed : decide ((20 : Int) < ((rs[i].1.length : Nat) : Int)) = decide (20 < rs[i].1.length) := by
          rw [decide_eq_decide]
          omega
        dsimp only
        rw [ed]
        rfl
      · rw [upd_ne (ne_of_none z hD)]
        exact sm _ _ z
    · rintro H1 ⟨e, s1⟩
      rw [List.take_of_length_le (Nat.le_refl _)] at e
      have ee : (rs.map fun x => V.bl (decide (20 < x.1.length))) = (rs.map fun x => decide (20 < x.1.length)).map V.bl := by
        rw [List.map_map]
        rfl
      rw [ee] at e
      refine ⟨D, _, rfl, SqL.of e, _, rfl, ?_⟩
      have ea : (rs.map fun x => decide (20 < x.1.length)).any id = rs.any fun x => decide (20 < x.1.length) := by
        rw [List.any_map]
        rfl
      rw [ea]
      by_cases c2 : (rs.any fun x => decide (20 < x.1.length)) = true
      · rw [c2]
        refine iteT ?_
        have e : tooLarge rs = true := by unfold tooLarge; simp [c2]
        rw [e] at q
        exact q H1 s1
      have c2f : (rs.any fun x => decide (20 < x.1.length)) = false := by simpa using c2
      rw [c2f]
      refine iteF ?_
      dsimp only
      have few : ∀ x ∈ rs, x.1.length ≤ 20 := fun x hx => by
        have z := List.any_eq_false.mp c2f x hx
        simp only [decide_eq_true_eq] at z
        omega
      refine ⟨_, rfl, t, rfl, ⟨_, SqT.of (s1 _ _ ht)⟩, fun D2 hD2 => ?_⟩
      refine out_it (n := rs.length) (by rw [← lenV]; exact walk_tup) (fun i H' => H' D2 = some (.lst (intsV (placesRs (rs.take i)))) ∧ Same H1 H') ⟨upd_same, same_new hD2⟩ (fun i H' _ h => SqT.of (h.2 _ _ (s1 _ _ ht))) ?_ ?_
      · rintro i x _ H2 hi ⟨e, sm⟩ ⟨rfl, hx⟩
        have ex := getV hi hx
        subst ex
        obtain ⟨bs, e1, e2, e3⟩ := row_at ((at_ _ (List.getElem_mem hi)).same s1)
        have lb : (runsV bs).length = bs.length := List.length_map _
        have lr : bs.length = rs[i].1.length := by rw [← e1, List.length_map]
        have f20 := few _ (List.getElem_mem hi)
        have fl : (placesRs (rs.take i)).length ≤ 20 * 20 := Nat.le_trans (placesRs_len fun x hx => few x (List.mem_of_mem_take hx)) (by rw [List.length_take]; exact Nat.mul_le_mul_right _ (by omega))
        refine ⟨rfl, yes_keep ?_⟩
        refine ⟨_, rfl, rs[i].2, rfl, ⟨_, SqT.of (sm _ _ e2)⟩, ?_⟩
        refine in_it (n := bs.length) (by rw [← lb]; exact walk_tup) (fun j H' => H' D2 = some (.lst (intsV (placesRs (rs.take i) ++ placesR (rs[i].1.take j)))) ∧ Same H1 H') ⟨by rw [List.take_zero]; unfold placesR; rw [List.map_nil, List.append_nil]; exact e, sm⟩ (fun j H' _ h => SqT.of (h.2 _ _ e2)) ?_ ?_
        · rintro j y _ H3 hj ⟨e4, s4⟩ ⟨rfl, hy⟩
          have ey : y = .ref bs[j].2 := by
            unfold runsV at hy
            rw [List.getElem?_map, List.getElem?_eq_getElem hj] at hy
            exact (Option.some.inj hy).symm
          subst ey
          have ra : H3 bs[j].2 = some (.tup [.str bs[j].1.1, .int (bs[j].1.2.1 : Nat), mostV bs[j].1.2.2]) := s4 _ _ (e3 _ (List.getElem_mem hj))
          refine ⟨bs[j].2, _, rfl, SqT.of ra, rfl, _, _, rfl, _, _, rfl, _, _, rfl, rfl, rfl, yes_keep ?_⟩
          refine ⟨_, rfl, _, rfl, bs[j].1.2.1, bs[j].1.2.2, rfl, _, e4, ?_, ?_, fun b o z => ?_⟩
          · rw [intsV_len, List.length_append]
            unfold placesR
            rw [List.length_map, List.length_take]
            exact small1000 (by omega)
          · rw [upd_same]
            have hjr : j < rs[i].1.length := by omega
            have er : rs[i].1[j]? = some bs[j].1 := by
              rw [← e1, List.getElem?_map, List.getElem?_eq_getElem hj]
              rfl
            have et : rs[i].1.take (j + 1) = rs[i].1.take j ++ [bs[j].1] := by
              rw [List.take_add_one, er]
              rfl
            rw [et]
            unfold placesR
            rw [List.map_append, ← List.append_assoc, ← intsV_app (placesRs (rs.take i) ++ (rs[i].1.take j).map pcR)]
            rfl
          · rw [upd_ne (ne_of_none z hD2)]
            exact s4 _ _ z
        · rintro H3 ⟨e4, s4⟩
          refine ⟨?_, s4⟩
          rw [placesRs_succ rs hi, e4, lr, List.take_of_length_le (Nat.le_refl _)]
      · rintro H2 ⟨e, sm⟩
        rw [List.take_of_length_le (Nat.le_refl _)] at e
        have ei : intsV (placesRs rs) = ((placesRs rs).map fun x : Nat => (x : Int)).map V.int := by
          unfold intsV
          rw [List.map_map]
          rfl
        rw [ei] at e
        refine ⟨D2, _, rfl, SqL.of e, _, _, rfl, rfl, ?_⟩
        rw [sum_cast]
        have et : tooLarge rs = decide ((120 : Int) < (((placesRs rs).sum : Nat) : Int)) := by
          unfold tooLarge
          rw [c2f, decide_eq_false c1, Bool.false_or, Bool.false_or, decide_eq_decide]
          omega
        rw [et] at q
        exact q H2 (s1.trans sm)
end
end K04

set_option autoImplicit false
set_option maxErrors 4
namespace K04
open PySem PySem.Spec PyProof.Rows L2 Tl
def runN (r : RunL) : LNet := runL r.1 r.2.1 r.2.2
def altN (r : RowL) : LNet := chainL (r.map runN)
def kindN (rs : List RowL) : LNet := sideL (rs.map altN)
/-- a run within the bounds -/
def RunOk (r : RunL) : Prop := r.1.cps.size ≤ 1000 ∧ (∀ n, r.2.2 = some n → r.2.1 ≤ n) ∧ pcR r ≤ 500
theorem runN_chars (r : RunL) : (runN r).chars.length = pcR r := by
  unfold runN runL pcR
  exact List.length_replicate
theorem runN_ok {r : RunL} (h : RunOk r) : (runN r).Ok := runL_ok h.1 h.2.1 (Nat.le_trans h.2.2 (by decide))
theorem charsOf_runs (r : RowL) : charsOf (r.map runN) = (placesR r).sum := by
  unfold charsOf placesR
  rw [List.map_map]
  congr 1
  exact List.map_congr_left fun x _ => runN_chars x
theorem chain_ok : ∀ (ns : List LNet) (acc : LNet), acc.Ok → (∀ n ∈ ns, n.Ok) → acc.chars.length + charsOf ns ≤ 1000 → (ns.foldl chainStep acc).Ok ∧ (ns.foldl chainStep acc).chars.length = acc.chars.length + charsOf ns
  | [], acc, ok, _, _ => ⟨ok, by unfold charsOf; simp⟩
  | n :: ns, acc, ok, all, small => by
    have c : charsOf (n :: ns) = n.chars.length + charsOf ns := by unfold charsOf; simp
    have cl : (chainStep acc n).chars.length = acc.chars.length + n.chars.length := by
      unfold chainStep
      exact List.length_append
    obtain ⟨r1, r2⟩ := chain_ok ns (chainStep acc n) (chainStep_ok ok (all n List.mem_cons_self) (by omega)) (fun x hx => all x (List.mem_cons_of_mem _ hx)) (by omega)
    exact ⟨r1, by rw [List.foldl_cons, r2]; omega⟩
theorem altN_ok {r : RowL} (h : ∀ x ∈ r, RunOk x) (small : (placesR r).sum ≤ 500) : (altN r).Ok ∧ (altN r).chars.length = (placesR r).sum := by
  have z := chain_ok (r.map runN) chain0 chain0_ok (fun n hn => by
    obtain ⟨x, hx, rfl⟩ := List.mem_map.mp hn
    exact runN_ok (h x hx)) (by rw [charsOf_runs]; show 0 + _ ≤ 1000; omega)
  refine ⟨z.1, ?_⟩
  show (List.foldl chainStep chain0 (r.map runN)).chars.length = _
  rw [z.2, charsOf_runs]
  show 0 + _ = _
  omega
/-- a net that has nothing at D -/
def NetOff (NC D : Addr) (H : Hp) (r : Addr) (n : LNet) : Prop := ∃ dx c f d, (r ≠ D ∧ c ≠ D ∧ f ≠ D ∧ d ≠ D) ∧ H r = some (.ins NC dx [("chars", .ref c), ("follow", .ref f), ("exits", .int (n.exits : Nat)), ("stands_for", .ref d)]) ∧ H c = some (.lst (strsV n.chars)) ∧ H f = some (.lst (intsV n.follow)) ∧ H d = some (.dK (standsFor n.chars))
theorem NetOff.at {NC D : Addr} {H : Hp} {r : Addr} {n : LNet} (h : NetOff NC D H r n) : NetAt NC H r n := by
  obtain ⟨dx, c, f, d, _, h⟩ := h
  exact ⟨dx, c, f, d, h⟩
theorem NetOff.same {NC D : Addr} {H H' : Hp} {r : Addr} {n : LNet} (h : NetOff NC D H r n) (s : ∀ b o, b ≠ D → H b = some o → H' b = some o) : NetOff NC D H' r n := by
  obtain ⟨dx, c, f, d, ⟨n1, n2, n3, n4⟩, h1, h2, h3, h4⟩ := h
  exact ⟨dx, c, f, d, ⟨n1, n2, n3, n4⟩, s _ _ n1 h1, s _ _ n2 h2, s _ _ n3 h3, s _ _ n4 h4⟩
theorem NetNew.off {NC D : Addr} {H H' : Hp} {r c f : Addr} {n : LNet} {o : HO} (h : NetNew NC H H' r c f n) (hr : H r = none) (hc : H c = none) (hf : H f = none) (hD : H D = some o) : NetOff NC D H' r n := by
  obtain ⟨dx, d, h0, h⟩ := h
  have ne : ∀ {x : Addr}, H x = none → x ≠ D := fun {x} z e => by
    rw [e, hD] at z
    cases z
  exact ⟨dx, c, f, d, ⟨ne hr, ne hc, ne hf, ne h0⟩, h⟩
section
variable {P : Program} {w : World} {K : PySem.W.Frag} {mg : Str → Option Value} {base : Heap} {NC : Addr}
def spAlt (NC : Addr) : Sp := fun vs H Q _ => ∃ (a : Addr) (r : RowL), vs = [.ref a] ∧ NkV H (rowK r) (.ref a) ∧ (∀ x ∈ r, RunOk x) ∧ (placesR r).sum ≤ 500 ∧ r.length ≤ 500 ∧ GivesNet NC H Q (altN r)
set_option maxHeartbeats 20000000 in
theorem ok_alt {f : Addr} {fd : FuncData} (F : FnP K "alternative_net" "alternative_net" s_alternative_net f fd) (C : Can P w K mg base CX0 "chained" ["nets"] 4 (spNets NC chainL)) (R : Can P w K mg base CX0 "run_net" ["signs", "least", "most"] 4 (spRunNet NC)) : FnOk P w K mg base CX0 5 f fd ["row"] (spAlt NC) := by
  obtain ⟨fC, fdC, GC, gC, kC, bC⟩ := C
  obtain ⟨fR, fdR, GR, gR, kR, bR⟩ := R
  have nd := sc_alternative_net.nd
  refine F.ok sc_alternative_net (fun vs H Q E h => ?_) (fun cdv A outer s H vs Q E hr h => ?_)
  · obtain ⟨a, r, rfl, _⟩ := h
    rfl
  · obtain ⟨a, r, rfl, nk, ok, small, len, q⟩ := h
    refine ⟨_, PSs.nox (pss_one (ps_ret (pe_call GC hr (by rfl) gC kC bC .nil pass0 (pa_cons (pe_lc (own := [("signs", 1), ("least", 2), ("most", 3)]) (g := gTup K 3 (gCons (gName 1) (gCons (gName 2) (gCons (gName 3) gNil)))) (tt := tYes) rfl nd (pi_tup (pv 0)) (blkOk_by (N := ["row", "signs", "least", "most"]) (sc := defScope s_alternative_net) (by decide +kernel))
        (fun _ _ _ _ _ => pg_tup rfl (pgs_cons (pg_name (i := 1) nd rfl (Or.inl rfl) (Or.inr rfl)) (pgs_cons (pg_name (i := 2) nd rfl (Or.inl rfl) (Or.inr rfl)) (pgs_cons (pg_name (i := 3) nd rfl (Or.inl rfl) (Or.inr rfl)) pgs_nil)))) (fun _ _ _ _ _ => pts_nil)
        (fun _ _ _ _ _ => pe_call GR hr (by rfl) gR kR bR .nil pass0 (pa_cons (pv 1) (pa_cons (pv 2) (pa_cons (pv 3) pa_nil))))) pa_nil)))), ?_⟩
    obtain ⟨bs, e1, e2, e3⟩ := row_at nk
    have lb : (runsV bs).length = bs.length := List.length_map _
    have lr : bs.length = r.length := by rw [← e1, List.length_map]
    refine ⟨_, rfl, a, rfl, ⟨_, SqT.of e2⟩, fun D hD => ?_⟩
    refine lc_it (n := bs.length) (by rw [← lb]; exact walk_tup) (fun j H' => ∃ ps : Prs, H' D = some (.lst (refsP ps)) ∧ netsP ps = (r.take j).map runN ∧ (∀ x ∈ ps, NetOff NC D H' x.1 x.2 ∧ x.2.Ok) ∧ Same H H') ⟨[], upd_same, rfl, (fun x hx => by cases hx), same_new hD⟩ (fun j H' _ h => by
      obtain ⟨_, _, _, _, sm⟩ := h
      exact SqT.of (sm _ _ e2)) ?_ ?_
    · rintro j y _ H3 hj ⟨ps, e4, en, na, sm⟩ ⟨rfl, hy⟩
      have ey : y = .ref bs[j].2 := by
        unfold runsV at hy
        rw [List.getElem?_map, List.getElem?_eq_getElem hj] at hy
        exact (Option.some.inj hy).symm
      subst ey
      have ra : H3 bs[j].2 = some (.tup [.str bs[j].1.1, .int (bs[j].1.2.1 : Nat), mostV bs[j].1.2.2]) := sm _ _ (e3 _ (List.getElem_mem hj))
      have er : r[j]? = some bs[j].1 := by
        rw [← e1, List.getElem?_map, List.getElem?_eq_getElem hj]
        rfl
      obtain ⟨o1, o2, o3⟩ := ok _ (List.mem_of_getElem? er)
      refine ⟨bs[j].2, _, rfl, SqT.of ra, rfl, _, _, rfl, _, _, rfl, _, _, rfl, rfl, rfl, yes_keep ?_⟩
      refine ⟨_, rfl, _, rfl, _, rfl, bs[j].1.1, bs[j].1.2.1, bs[j].1.2.2, rfl, o1, o2, o3, fun n nc nf H4 s4 hn0 hnc hnf nat => ?_⟩
      have eD := s4 _ _ e4
      have lp : ps.length = j := by
        have z := congrArg List.length en
        unfold netsP at z
        rw [List.length_map, List.length_map, List.length_take] at z
        omega
      have nD : n ≠ D := fun z => by
        rw [z, e4] at hn0
        cases hn0
      have keep : ∀ b o, b ≠ D → H4 b = some o → (upd H4 D (.lst (refsP ps ++ [.ref n]))) b = some o := fun b o nb z => by
        rw [upd_ne nb]
        exact z
      refine ⟨_, eD, ?_, ps ++ [(n, runN bs[j].1)], ?_, ?_, ?_, fun b o z => ?_⟩
      · unfold refsP
        rw [List.length_map, lp]
        exact small1000 (by omega)
      · rw [upd_same]
        unfold refsP
        rw [List.map_append]
        rfl
      · unfold netsP at en ⊢
        rw [List.map_append, en, List.take_add_one, er, List.map_append]
        rfl
      · intro x hx
        have off : ∀ b o, b ≠ D → H4 b = some o → (upd H4 D (.lst (refsP ps ++ [.ref n]))) b = some o := keep
        rcases List.mem_append.mp hx with hx | hx
        · exact ⟨((na x hx).1.same fun b o _ z => s4 _ _ z).same off, (na x hx).2⟩
        · rw [List.mem_singleton.mp hx]
          exact ⟨(nat.off hn0 hnc hnf e4).same off, runN_ok ⟨o1, o2, o3⟩⟩
      · rw [upd_ne (ne_of_none z hD)]
        exact s4 _ _ (sm _ _ z)
    · rintro H1 ⟨ps, e4, en, na, sm⟩
      rw [lr, List.take_of_length_le (Nat.le_refl _)] at en
      refine ⟨D, ps, rfl, e4, fun x hx => ⟨(na x hx).1.at, (na x hx).2⟩, ?_, ?_⟩
      · rw [en, charsOf_runs]
        exact small
      · rw [en]
        exact fun n nc nf H2 s2 hn hc hf at_ => q n nc nf H2 (sm.trans s2) (sm.free hn) (sm.free hc) (sm.free hf) (at_.of sm)
end
end K04

/-! bool(a) of an own class, bool(text). -/
namespace Tl
open PySem PySem.Spec PyProof.Rows L2
theorem bool_by {prog : Program} {w : World} (v : Value) :
    MeetsIn prog w (Builtin.«bool.__new__» ⟨[.type "bool", v], []⟩) (fun A R s => wpAny (model prog w) A.in1 (truthy v) (fun b s' => R (.ok (.ret (.bool b))) s') (fun e s' => R (.error e) s') s) := by
  intro A R s h
  have f1 := F.conv_sub_bool
  obtain ⟨hp, g, d, tk, os⟩ := s
  unfold Builtin.«bool.__new__»
  generalize hT : truthy = TR at h ⊢
  repeat (any_goals (first | assumption | wp_step))
  all_goals skip
  exact wpAny_mono h (fun b s' q => wpAny_pure q) fun _ _ z => z
theorem call_bool_by {prog : Program} {w : World} {A : Around} {E : Value → Shared → Prop} {s : Shared} {v : Value} {Q : Value → Shared → Prop}
    (h : wpAny (model prog w) A.in1.in1 (truthy v) (fun b s' => Q (.bool b) s') E s) : wpAny (model prog w) A (call (.type "bool") [v]) Q E s :=
  callType_newIn F.called_bool F.newNe_bool (F.typeCall_bool_1 v) (F.newCall_bool_1 v) (fun obj => F.args_object_init_2 obj v) F.entry_bool_new (bool_by v)
    (wpAny_mono h (fun b s' q => ⟨rfl, q⟩) fun _ _ z => z)
section
variable {X : Cx} {CX : CXT} {k : Nat} {C f : Addr} {fd : FuncData} {ps : List Str} {sp : Sp} {E : XK}
/-- bool(a), a an instance of C with an own __bool__ -/
def rBoolO (C : Addr) (sp : Sp) (E : XK) : List V → Hp → VK → Prop := fun xs H Q => ∃ a dx fs, xs = [.ref a] ∧ H a = some (.ins C dx fs) ∧ sp [.ref a] H (fun v H' => ∃ b, v = .bl b ∧ Q (.bl b) H') E
theorem call_boolO (M : OpC X.K C "__bool__" f) (F : FnOk X.prog X.w X.K X.mg X.base CX k f fd ps sp) (hr : Room (k + 2) X.A) (hb : Binds X.K fd ps []) (hx : Passes CX X E) : CallR X (.type "bool") (rBoolO C sp E) := by
  intro pins s σ H xs us Q I r h
  obtain ⟨a, dx, fs, rfl, ha, q⟩ := h
  rw [Vals.ref1 r]
  obtain ⟨oa, da, Ja⟩ := inst_of I ha
  obtain ⟨mm, Fm⟩ := I.fr
  have hl : ([Value.ref a] ++ []).length = ps.length := by
    rw [← F.len _ _ _ _ q]
    rfl
  refine call_bool_by (PySem.W.truthy_K Fm I.mod.kin Ja M.at_ M.fn (wpAny_call (codeAny_mono (F.run X.A.in1.in1 X.stack s H ⟨[.ref a], []⟩ [.ref a] [.ref a] _ E hr.in1.in1 I.env0.in1.in1 (hb _ [.ref a] I.kIn hl) (.cons (relRef _) .nil) q) fun r s' hq => ?_)))
  cases r with
  | error er => exact hx pins σ H s er s' I hq
  | ok fl =>
    cases fl with
    | ret u =>
      obtain ⟨v, H', I3, rv, b, rfl, q3⟩ := I.after hq
      cases rv
      exact ⟨.bl b, H', I3, rfl, q3⟩
    | next => exact False.elim hq
    | brk => exact False.elim hq
    | cont => exact False.elim hq
/-- bool(z) of a text -/
theorem call_boolTx : CallR X (.type "bool") (fun xs H Q => ∃ l : List Nat, xs = [.str (tx l)] ∧ l.length ≤ 16777216 ∧ Q (.bl (!l.isEmpty)) H) := by
  intro pins s σ H xs us Q I r h
  obtain ⟨l, rfl, hl, q⟩ := h
  obtain ⟨u, rfl, t, rfl⟩ := vals1 r
  have e : (((tx l).length : Int) != 0) = !l.isEmpty := by
    rw [len_tx]
    cases l with
    | nil => rfl
    | cons x l2 =>
      rw [List.length_cons]
      show ((((l2.length + 1 : Nat) : Int) != 0)) = true
      rw [bne_iff_ne]
      omega
  refine call_bool_str (by rw [len_tx]; omega) ⟨.bl (!l.isEmpty), H, I.tok _, by rw [e]; rfl, q⟩
end
end Tl

set_option autoImplicit false
set_option maxErrors 4
namespace K04
open PySem PySem.Spec PyProof.Rows L2 Tl
/-! ### the mathematics of sets of signs: an ascending list of codes -/
def norm (l : List Nat) : List Nat := alpha.filter fun n => decide (n ∈ l)
theorem mem_norm {l : List Nat} (h : ∀ n ∈ l, n ∈ alpha) (n : Nat) : n ∈ norm l ↔ n ∈ l := by
  unfold norm
  rw [List.mem_filter, decide_eq_true_eq]
  exact ⟨fun x => x.2, fun x => ⟨h n x, x⟩⟩
theorem norm_sub (l : List Nat) : ∀ n ∈ norm l, n ∈ alpha := fun n h => (List.mem_filter.mp h).1
theorem norm_congr {l k : List Nat} (h : ∀ n ∈ alpha, n ∈ l ↔ n ∈ k) : norm l = norm k := by
  unfold norm
  exact List.filter_congr fun n hn => by
    rw [decide_eq_decide]
    exact h n hn
theorem norm_norm (l : List Nat) : norm (norm l) = norm l := norm_congr fun n hn => by
  unfold norm
  rw [List.mem_filter, decide_eq_true_eq]
  exact ⟨fun x => x.2, fun x => ⟨hn, x⟩⟩
theorem norm_len (l : List Nat) : (norm l).length ≤ 94 := by
  have h := List.length_filter_le (fun n => decide (n ∈ l)) alpha
  rw [alpha_len] at h
  exact h
theorem norm_filter (l : List Nat) (p : Nat → Bool) : (norm l).filter p = norm ((norm l).filter p) := by
  have e : norm ((norm l).filter p) = alpha.filter fun n => decide (n ∈ l) && p n := by
    unfold norm
    refine List.filter_congr fun n hn => ?_
    rw [Bool.eq_iff_iff, decide_eq_true_eq, List.mem_filter, List.mem_filter, Bool.and_eq_true]
    exact ⟨fun x => ⟨x.1.2, x.2⟩, fun x => ⟨⟨hn, x.1⟩, x.2⟩⟩
  rw [e]
  unfold norm
  rw [List.filter_filter]
  exact List.filter_congr fun n _ => Bool.and_comm _ _
/-! ### the class Signs -/
/-- the attributes of a set of the signs S -/
def flS (S : List Nat) : List (Str × V) := [("signs", .str (tx S))]
theorem flS_signs (S : List Nat) : (flS S).lookup ("signs" : Str) = some (.str (tx S)) := by
  unfold flS
  simp [List.lookup]
theorem flS_no (S : List Nat) {m : Str} (h : ¬ m = "signs") : (flS S).lookup m = none := by
  unfold flS
  have e : (m == ("signs" : Str)) = false := by simpa using h
  simp [List.lookup, e]
/-- a set of signs stands at a -/
structure Sg (C : Addr) (H : Hp) (a : Addr) (S : List Nat) : Prop where
  ob : ∃ dx, H a = some (.ins C dx (flS S))
  can : norm S = S
theorem Sg.at {C : Addr} {H H' : Hp} {a : Addr} {S : List Nat} (h : Sg C H a S) (k : ∀ o, H a = some o → H' a = some o) : Sg C H' a S := by
  obtain ⟨⟨dx, e⟩, c⟩ := h
  exact ⟨⟨dx, k _ e⟩, c⟩
theorem Sg.len {C : Addr} {H : Hp} {a : Addr} {S : List Nat} (h : Sg C H a S) : S.length ≤ 94 := by
  rw [← h.can]
  exact norm_len S
theorem Sg.sub {C : Addr} {H : Hp} {a : Addr} {S : List Nat} (h : Sg C H a S) : ∀ n ∈ S, n ∈ alpha := by
  rw [← h.can]
  exact norm_sub S
/-- a text of signs -/
structure SgT (l : List Nat) : Prop where
  sub : ∀ n ∈ l, n ∈ alpha
  few : l.length ≤ 2000
theorem Sg.txt {C : Addr} {H : Hp} {a : Addr} {S : List Nat} (h : Sg C H a S) : SgT S := ⟨h.sub, Nat.le_trans h.len (by decide)⟩
/-- what the walk asks of the class Signs -/
structure Txt (K : PySem.W.Frag) (mg : Str → Option Value) (C : Addr) : Prop where
  cl : Cls K C
  nS : NoAttr K C "signs"
  gC : mg "Signs" = some (.ref C)
  sgn : ∃ t, mg "SIGNS" = some (.str (tx alpha) t)
  kStr : PySem.W.kitOne K (.type "str") (.ref C) = some false
  kOwn : PySem.W.kitOne K (.ref C) (.ref C) = some true
  sStr : PySem.W.kitOne K (.ref C) (.type "str") = some false
  c1 : PySem.W.findIn K (.ref C) "__class__" = some (some (.builtin "object.__class__"))
  c2 : PySem.W.specialIn K (.builtin "object.__class__") "__get__" = some (some (.builtin "getset_descriptor.__get__"))
  c3 : PySem.W.takesIn K (.builtin "object.__class__") = some true
  c4 : PySem.W.mroIn K C (.type "object") = some true
theorem Txt.ty {K : PySem.W.Frag} {mg : Str → Option Value} {C : Addr} (T : Txt K mg C) {H : Hp} {a : Addr} {S : List Nat} (h : Sg C H a S) : TyX K H (.ref a) (.ref C) := by
  obtain ⟨⟨dx, e⟩, _⟩ := h
  exact .base (.ins e T.cl T.c1 T.c2 T.c3 T.c4)
/-- what an operand may be: a set of the signs S or a text of them -/
def Opd (C : Addr) (H : Hp) (x : V) (S : List Nat) : Prop := (∃ a, x = .ref a ∧ Sg C H a S) ∨ ∃ l, x = .str (tx l) ∧ SgT l ∧ S = norm l
abbrev Gives (H : Hp) (Q : VK) (v : V) : Prop := ∀ H', Same H H' → Q v H'
/-- what is asked whether it is signs -/
inductive Asked (K : PySem.W.Frag) (C : Addr) (H : Hp) : V → Bool → Prop
  | set {a : Addr} {S : List Nat} : Sg C H a S → Asked K C H (.ref a) true
  | txt {l : List Nat} : l.length ≤ 2000 → Asked K C H (.str (tx l)) (l.all fun n => decide (n ∈ alpha))
  | off {x : V} {t : Value} : TyX K H x t → PySem.W.kitOne K t (.ref C) = some false → PySem.W.kitOne K t (.type "str") = some false → Asked K C H x false
section
variable {P : Program} {w : World} {K : PySem.W.Frag} {mg : Str → Option Value} {base : Heap} {C : Addr}
def spTextA (K : PySem.W.Frag) (C : Addr) : Sp := fun vs H Q _ => ∃ x b, vs = [x] ∧ Asked K C H x b ∧ (∀ a, x = .ref a → b = false) ∧ Gives H Q (.bl b)
theorem ok_is_sign_text {f : Addr} {fd : FuncData} (F : FnP K "is_sign_text" "is_sign_text" s_is_sign_text f fd) (T : Txt K mg C) (N : Nms mg) : FnOk P w K mg base CX0 1 f fd ["thing"] (spTextA K C) := by
  have nd := sc_is_sign_text.nd
  refine F.ok sc_is_sign_text (fun vs H Q E h => ?_) (fun cdv A outer s H vs Q E hr h => ?_)
  · obtain ⟨x, b, rfl, _⟩ := h
    rfl
  · obtain ⟨x, b, rfl, ak, nr, q⟩ := h
    obtain ⟨t, gS⟩ := T.sgn
    refine ⟨_, PSs.nox (pss_one (ps_ret (pe_and (pe_callB call_isi (by rfl) N.isi (by decide +kernel) (pa_cons (pv 0) (pa_cons (pe_bltn (v := .ty "str") (by rfl) N.str (by decide +kernel) rfl) pa_nil)))
      (pe_one (pe_callB (cr_all rfl) (by rfl) N.all (by decide +kernel) (pa_cons (pe_lc (own := [("sign", 1)]) (g := gName 1) (tt := tYes) rfl nd (pi_str (pv 0)) (blkOk_by (N := ["thing", "sign"]) (sc := defScope s_is_sign_text) (by decide +kernel)) (fun _ _ _ _ _ => pg_name (i := 1) nd rfl (Or.inl rfl)) (fun _ _ _ _ _ => pts_nil)
        (fun _ _ _ _ _ => pe_cmpR op_in_sign (pv 1) (pe_glob (v := .str (tx alpha)) rfl gS ⟨_, rfl⟩) rfl)) pa_nil)))))), ?_⟩
    cases ak with
    | set h => cases nr _ rfl
    | off ty _ ks => exact ⟨_, rfl, _, _, _, _, false, rfl, .ty "str", ty, ks, false, rfl, iteF (q H (Same.refl H))⟩
    | @txt l hl =>
      refine ⟨_, rfl, _, _, _, _, true, rfl, .ty "str", .base (.str _), kit_ty (by decide +kernel), true, rfl, iteT ?_⟩
      refine cb_one ?_
      refine lc_tx (l := l) (p := fun _ => true) (f := fun n => V.bl (decide (n ∈ alpha))) (i := 1) (Nat.le_trans hl (by decide)) (fun Q' z => ⟨_, rfl, z⟩) (fun _ => rfl) (fun n H2 Qb _ z => z) (fun n H2 Q' _ z => ⟨_, rfl, n, tx alpha, rfl, rfl, z⟩) fun D hD => ?_
      have eb : ((l.filter fun _ => true).map fun n => V.bl (decide (n ∈ alpha))) = (l.map fun n => decide (n ∈ alpha)).map V.bl := by
        rw [List.filter_eq_self.mpr (fun _ _ => rfl), List.map_map]
        rfl
      refine ⟨D, _, rfl, SqL.of (by rw [← eb]; exact upd_same), ?_⟩
      have ea : (l.map fun n => decide (n ∈ alpha)).all id = l.all fun n => decide (n ∈ alpha) := by
        rw [List.all_map]
        rfl
      rw [ea]
      exact q _ (same_new hD)
def spSigns (K : PySem.W.Frag) (C : Addr) : Sp := fun vs H Q _ => ∃ x b, vs = [x] ∧ Asked K C H x b ∧ Gives H Q (.bl b)
theorem ok_is_signs {f : Addr} {fd : FuncData} (F : FnP K "is_signs" "is_signs" s_is_signs f fd) (T : Txt K mg C) (N : Nms mg) (I : Can P w K mg base CX0 "is_sign_text" ["thing"] 1 (spTextA K C)) : FnOk P w K mg base CX0 2 f fd ["thing"] (spSigns K C) := by
  obtain ⟨fI, fdI, GI, gI, kI, bI⟩ := I
  refine F.ok sc_is_signs (fun vs H Q E h => ?_) (fun cdv A outer s H vs Q E hr h => ?_)
  · obtain ⟨x, b, rfl, _⟩ := h
    rfl
  · obtain ⟨x, b, rfl, ak, q⟩ := h
    refine ⟨_, PSs.nox (pss_one (ps_ret (pe_or (pe_callB call_isi (by rfl) N.isi (by decide +kernel) (pa_cons (pv 0) (pa_cons (pe_glob (v := .ref C) rfl T.gC rfl) pa_nil))) (pe_one (pe_call GI hr (by rfl) gI kI bI .nil pass0 (pa_cons (pv 0) pa_nil)))))), ?_⟩
    cases ak with
    | set h => exact ⟨_, rfl, _, _, _, _, true, rfl, .own C, T.ty h, T.kOwn, true, rfl, iteT (q H (Same.refl H))⟩
    | off ty kc ks => exact ⟨_, rfl, _, _, _, _, false, rfl, .own C, ty, kc, false, rfl, iteF ⟨_, rfl, _, false, rfl, .off ty kc ks, fun _ _ => rfl, q⟩⟩
    | @txt l hl => exact ⟨_, rfl, _, _, _, _, false, rfl, .own C, .base (.str _), T.kStr, false, rfl, iteF ⟨_, rfl, _, _, rfl, .txt hl, (fun a z => by cases z), q⟩⟩
/-- a new set of signs -/
def spInit (C : Addr) : Sp := fun vs H Q _ => ∃ p dx l, vs = [.ref p, .str (tx l)] ∧ H p = some (.ins C dx []) ∧ SgT l ∧ ∀ H', (∀ x o, H x = some o → x ≠ p → H' x = some o) → H' p = some (.ins C dx (flS (norm l))) → Q .non H'
theorem ok_init {f fT : Addr} {fd fdT : FuncData} (F : FunD K "__init__" "Signs.__init__" (defArgs s_Signs_init_) (defBody s_Signs_init_) (defScope s_Signs_init_) [.str ""] [] f fd) (T : Txt K mg C)
    (GT : FnOk P w K mg base CX0 1 fT fdT ["thing"] (spTextA K C)) (gT : mg "is_sign_text" = some (.ref fT)) (kT : PySem.W.keepIn K (.ref fT) = true) (bT : Binds K fdT ["thing"] []) : FnOk P w K mg base CX0 2 f fd ["self", "text"] (spInit C) := by
  have nd := sc_Signs_init_.nd
  refine F.ok sc_Signs_init_ (fun vs H Q E h => ?_) (fun cdv A outer s H vs Q E hr h => ?_)
  · obtain ⟨p, dx, l, rfl, _⟩ := h
    rfl
  · obtain ⟨p, dx, l, rfl, hp, hl, q⟩ := h
    obtain ⟨t, gS⟩ := T.sgn
    refine ⟨_, PSs.nox (pss_cons (ps_if (pt_not (pt_val (pe_call GT hr (by rfl) gT kT bT .nil pass0 (pa_cons (pv 1) pa_nil)))) (pss_one ps_never) pss_nil)
      (pss_one (ps_fld (pv 0) (pe_join pe_str (pe_lc (own := [("sign", 2)]) (g := gName 2) rfl nd (pi_str (pe_glob (v := .str (tx alpha)) rfl gS ⟨_, rfl⟩)) (blkOk_by (N := ["self", "text", "sign"]) (sc := defScope s_Signs_init_) (by decide +kernel)) (fun _ _ _ _ _ => pg_name (i := 2) nd rfl (Or.inl rfl))
      (fun _ _ _ _ _ => pts_one (pt_cmpR op_in_sign (pv 2) (pv 1) rfl)) (fun _ _ _ _ _ => pv 2))) rfl))), ?_⟩
    have al : (l.all fun n => decide (n ∈ alpha)) = true := List.all_eq_true.mpr fun n hn => decide_eq_true (hl.sub n hn)
    refine ⟨_, rfl, _, _, rfl, .txt hl.few, (fun a z => by cases z), fun H1 s1 => ⟨_, rfl, ?_⟩⟩
    rw [al]
    refine iteF ?_
    unfold tNext sFld
    dsimp only
    refine join_tx (i := 2) (p := fun n => decide (n ∈ l)) (l := alpha) rfl (by rw [alpha_len]; decide) (fun Q' z => z) (fun _ => rfl) (fun _ => rfl) (fun n H2 Qb _ z => ⟨_, rfl, _, rfl, n, tx l, rfl, rfl, _, rfl, z⟩) fun H2 s2 => ?_
    have hp2 := s2 _ _ (s1 _ _ hp)
    refine ⟨_, rfl, p, C, dx, _, rfl, hp2, T.cl, T.nS, (by show 0 < 1000; decide), ?_⟩
    refine q _ (fun x o e nx => ?_) upd_same
    rw [upd_ne nx]
    exact s2 _ _ (s1 _ _ e)
/-- how Signs(..) is made -/
def CanMk (P : Program) (w : World) (K : PySem.W.Frag) (mg : Str → Option Value) (base : Heap) (C : Addr) : Prop := ∃ f fd, Mk K C f ∧ FnOk P w K mg base CX0 2 f fd ["self", "text"] (spInit C) ∧ Binds K fd ["self", "text"] [] ∧ ∃ ds, Vals [.str ""] ds ∧ Binds K fd ["self", "text"] ds
/-- a new set of the signs S, beside a heap in which all stands as it stood -/
abbrev GivesSg (C : Addr) (H : Hp) (Q : VK) (S : List Nat) : Prop := ∀ (r : Addr) (H' : Hp), Same H H' → H r = none → Sg C H' r S → Q (.ref r) H'
/-- what the making of Signs(text) asks -/
theorem make_rd {H : Hp} {Q : VK} {l : List Nat} (hl : SgT l) (q : GivesSg C H Q (norm l)) : ∀ x dx, H x = none → H dx = none → dx ≠ x → spInit C (.ref x :: ([.str (tx l)] ++ [])) (upd (upd H dx (.own x)) x (.ins C dx [])) (fun v H2 => v = .non ∧ Q (.ref x) H2) E0 := by
  intro x dx hx hdx ne
  refine ⟨x, dx, l, rfl, upd_same, hl, fun H' k e => ⟨rfl, q x H' (fun b o z => k b o ?_ (ne_of_none z hx)) hx ⟨⟨dx, e⟩, norm_norm l⟩⟩⟩
  rw [upd_ne (ne_of_none z hx), upd_ne (ne_of_none z hdx)]
  exact z
def spOf (C : Addr) : Sp := fun vs H Q _ => ∃ x S, vs = [x] ∧ Opd C H x S ∧ Gives H Q (.str (tx S))
theorem ok_signs_of {f : Addr} {fd : FuncData} (F : FnP K "signs_of" "signs_of" s_signs_of f fd) (T : Txt K mg C) (N : Nms mg) (M : CanMk P w K mg base C) : FnOk P w K mg base CX0 4 f fd ["thing"] (spOf C) := by
  obtain ⟨fI, fdI, MI, GI, bI, _⟩ := M
  have nd := sc_signs_of.nd
  refine F.ok sc_signs_of (fun vs H Q E h => ?_) (fun cdv A outer s H vs Q E hr h => ?_)
  · obtain ⟨x, S, rfl, _⟩ := h
    rfl
  · obtain ⟨x, S, rfl, hx, q⟩ := h
    refine ⟨_, PSs.nox (pss_cons (ps_if (pt_val (pe_callB call_isi (by rfl) N.isi (by decide +kernel) (pa_cons (pv 0) (pa_cons (pe_glob (v := .ref C) rfl T.gC rfl) pa_nil)))) (pss_one (ps_ret (pe_fld (pv 0) rfl))) pss_nil)
      (pss_one (ps_ret (pe_fld (pe_make MI GI hr (by rfl) T.gC bI .nil pass0 (pa_cons (pv 0) pa_nil)) rfl)))), ?_⟩
    rcases hx with ⟨a, rfl, hS⟩ | ⟨l, rfl, hl, rfl⟩
    · refine ⟨_, rfl, _, _, _, _, true, rfl, .own C, T.ty hS, T.kOwn, true, rfl, iteT ?_⟩
      obtain ⟨⟨dx, e⟩, _⟩ := id hS
      exact ⟨_, rfl, a, C, dx, _, _, rfl, e, T.cl, T.nS, flS_signs S, q H fun _ _ z => z⟩
    · refine ⟨_, rfl, _, _, _, _, false, rfl, .own C, .base (.str _), T.kStr, false, rfl, iteF ?_⟩
      refine ⟨_, rfl, ?_⟩
      refine fun r dx hr0 hdx ne => ⟨r, dx, l, rfl, upd_same, hl, fun H' k e => ⟨rfl, r, C, dx, _, _, rfl, e, T.cl, T.nS, flS_signs _, q H' fun b o z => k b o ?_ (ne_of_none z hr0)⟩⟩
      rw [upd_ne (ne_of_none z hr0), upd_ne (ne_of_none z hdx)]
      exact z
end
end K04

set_option autoImplicit false
set_option maxErrors 4
namespace K04
open PySem PySem.Spec PyProof.Rows L2 Tl
/-! ### bounds, rows, short texts -/
/-- a value that is given as a bound -/
inductive Bn
  | int (n : Int)
  | none
  | other
def BnAt (K : PySem.W.Frag) (H : Hp) (v : V) : Bn → Prop
  | .int n => v = .int n
  | .none => v = .non
  | .other => NoInt K H v ∧ v ≠ .non
def boundsOk : Bn → Bn → Option (Nat × Option Nat)
  | .int l, .none => if 0 ≤ l ∧ l ≤ 40 then some (l.toNat, Option.none) else Option.none
  | .int l, .int m => if 0 ≤ l ∧ l ≤ 40 ∧ 1 ≤ m ∧ m ≤ 40 ∧ l ≤ m then some (l.toNat, some m.toNat) else Option.none
  | _, _ => Option.none
theorem bo_n (l : Int) : boundsOk (.int l) .none = if 0 ≤ l ∧ l ≤ 40 then some (l.toNat, Option.none) else Option.none := rfl
theorem bo_i (l m : Int) : boundsOk (.int l) (.int m) = if 0 ≤ l ∧ l ≤ 40 ∧ 1 ≤ m ∧ m ≤ 40 ∧ l ≤ m then some (l.toNat, some m.toNat) else Option.none := rfl
theorem noInt_non {K : PySem.W.Frag} {H : Hp} : NoInt K H .non := ⟨.type "NoneType", false, false, .base .non, kit_ty (by decide +kernel), kit_ty (by decide +kernel), rfl⟩
theorem noInt_bl {K : PySem.W.Frag} {H : Hp} (b : Bool) : NoInt K H (.bl b) := ⟨.type "bool", true, true, .base (.bl b), kit_ty (by decide +kernel), kit_ty (by decide +kernel), rfl⟩
theorem noInt_str {K : PySem.W.Frag} {H : Hp} (z : Str) : NoInt K H (.str z) := ⟨.type "str", false, false, .base (.str z), kit_ty (by decide +kernel), kit_ty (by decide +kernel), rfl⟩
theorem noInt_lst {K : PySem.W.Frag} {H : Hp} {a : Addr} {xs : List V} (e : H a = some (.lst xs)) : NoInt K H (.ref a) := ⟨.type "list", false, false, .base (.lst e), kit_ty (by decide +kernel), kit_ty (by decide +kernel), rfl⟩
theorem tyX_same {K : PySem.W.Frag} {H H' : Hp} {x : V} {t : Value} (h : TyX K H x t) (s : Same H H') : TyX K H' x t := by
  cases h with
  | base b =>
    cases b with
    | non => exact .base .non
    | bl b => exact .base (.bl b)
    | int i => exact .base (.int i)
    | str z => exact .base (.str z)
    | flt z => exact .base (.flt z)
    | lst e => exact .base (.lst (s _ _ e))
    | frz e => exact .base (.frz (s _ _ e))
    | tup e => exact .base (.tup (s _ _ e))
    | dK e => exact .base (.dK (s _ _ e))
    | dT e => exact .base (.dT (s _ _ e))
    | ins e cl a b c d => exact .base (.ins (s _ _ e) cl a b c d)
  | byt b => exact .byt b
  | set e => exact .set (s _ _ e)
  | kList e c => exact .kList e c
  | kTuple e c => exact .kTuple e c
  | kDict e c => exact .kDict e c
  | fTuple e => exact .fTuple (s _ _ e)
  | fDict e => exact .fDict (s _ _ e)
theorem noInt_same {K : PySem.W.Frag} {H H' : Hp} {x : V} (h : NoInt K H x) (s : Same H H') : NoInt K H' x := by
  obtain ⟨t, b1, b2, ty, r⟩ := h
  exact ⟨t, b1, b2, tyX_same ty s, r⟩
theorem BnAt.same {K : PySem.W.Frag} {H H' : Hp} {v : V} {b : Bn} (h : BnAt K H v b) (s : Same H H') : BnAt K H' v b := by
  cases b with
  | int n => exact h
  | none => exact h
  | other => exact ⟨noInt_same h.1 s, h.2⟩
theorem kit2 {K : PySem.W.Frag} {t : Value} {b1 b2 : Bool} (k1 : PySem.W.kitOne K t (.type "list") = some b1) (k2 : PySem.W.kitOne K t (.type "tuple") = some b2) : PySem.W.kitAny K t [.type "list", .type "tuple"] = some (b1 || b2) := by
  unfold PySem.W.kitAny
  rw [k1]
  cases b1 with
  | true => rfl
  | false =>
    show PySem.W.kitAny K t [.type "tuple"] = _
    unfold PySem.W.kitAny
    rw [k2]
    cases b2 <;> rfl
section
variable {P : Program} {w : World} {K : PySem.W.Frag} {mg : Str → Option Value} {base : Heap} {C : Addr}
def spBounds (K : PySem.W.Frag) : Sp := fun vs H Q _ => ∃ (x y : V) (a b : Bn), vs = [x, y] ∧ BnAt K H x a ∧ BnAt K H y b ∧ Q (.bl (boundsOk a b).isSome) H
theorem ok_bounds {f : Addr} {fd : FuncData} (F : FnP K "are_bounds" "are_bounds" s_are_bounds f fd) (Co : Cons mg) (I : Can P w K mg base CX0 "is_integer_within" ["thing", "low", "high"] 2 (spWithin K)) : FnOk P w K mg base CX0 3 f fd ["least", "most"] (spBounds K) := by
  obtain ⟨fI, fdI, GI, gI, kI, bI⟩ := I
  obtain ⟨tB, gB⟩ := Co.bound
  refine F.ok sc_are_bounds (fun vs H Q E h => ?_) (fun cdv A outer s H vs Q E hr h => ?_)
  · obtain ⟨x, y, a, b, rfl, _⟩ := h
    rfl
  · obtain ⟨x, y, a, b, rfl, ha, hb, q⟩ := h
    refine ⟨_, PSs.nox (pss_cons (ps_if (pt_not (pt_val (pe_call GI hr (by rfl) gI kI bI .nil pass0 (pa_cons (pv 0) (pa_cons pe_int (pa_cons (pe_glob (v := .int 40) (by rfl) gB ⟨_, rfl⟩) pa_nil)))))) (pss_one (ps_ret pe_bl)) pss_nil)
      (pss_one (ps_ret (pe_or (pe_cmpR op_isN (pv 1) pe_non (nomark _)) (pe_one (pe_and (pe_call GI hr (by rfl) gI kI bI .nil pass0 (pa_cons (pv 1) (pa_cons pe_int (pa_cons (pe_glob (v := .int 40) (by rfl) gB ⟨_, rfl⟩) pa_nil)))) (pe_one (pe_cmpR op_le (pv 0) (pv 1) (nomark _))))))))), ?_⟩
    refine ⟨_, rfl, x, 0, 40, rfl, ?_⟩
    cases a with
    | none =>
      cases ha
      have e : (boundsOk .none b).isSome = false := by cases b <;> rfl
      rw [e] at q
      exact .inr ⟨noInt_non, _, rfl, iteT q⟩
    | other =>
      have e : (boundsOk .other b).isSome = false := by cases b <;> rfl
      rw [e] at q
      exact .inr ⟨ha.1, _, rfl, iteT q⟩
    | int l =>
      cases ha
      refine .inl ⟨l, rfl, _, rfl, ?_⟩
      by_cases hl : 0 ≤ l ∧ l ≤ 40
      · rw [decide_eq_true hl]
        refine iteF ?_
        cases b with
        | none =>
          cases hb
          refine ⟨_, rfl, rfl, true, rfl, iteT ?_⟩
          have e : (boundsOk (.int l) .none).isSome = true := by rw [bo_n, if_pos hl]; rfl
          rw [e] at q
          exact q
        | other =>
          refine ⟨_, rfl, rfl, false, congrArg V.bl (decide_eq_false hb.2), iteF ?_⟩
          exact ⟨_, rfl, y, 1, 40, rfl, .inr ⟨hb.1, false, rfl, iteF q⟩⟩
        | int m =>
          cases hb
          refine ⟨_, rfl, rfl, false, rfl, iteF ?_⟩
          refine ⟨_, rfl, _, 1, 40, rfl, .inl ⟨m, rfl, _, rfl, ?_⟩⟩
          by_cases hm : 1 ≤ m ∧ m ≤ 40
          · rw [decide_eq_true hm]
            refine iteT ?_
            refine ⟨_, rfl, _, rfl, _, _, rfl, rfl, ?_⟩
            have e : (boundsOk (.int l) (.int m)).isSome = decide (l ≤ m) := by
              rw [bo_i]
              by_cases z : l ≤ m
              · rw [if_pos ⟨hl.1, hl.2, hm.1, hm.2, z⟩, decide_eq_true z]
                rfl
              · rw [if_neg (fun y => z y.2.2.2.2), decide_eq_false z]
                rfl
            rw [e] at q
            exact q
          · rw [decide_eq_false hm]
            refine iteF ?_
            have e : (boundsOk (.int l) (.int m)).isSome = false := by
              rw [bo_i]
              rw [if_neg (fun y => hm ⟨y.2.2.1, y.2.2.2.1⟩)]
              rfl
            rw [e] at q
            exact q
      · rw [decide_eq_false hl]
        refine iteT ?_
        have e : (boundsOk (.int l) b).isSome = false := by
          cases b with
          | none => rw [bo_n, if_neg hl]; rfl
          | int m => rw [bo_i, if_neg (fun y => hl ⟨y.1, y.2.1⟩)]; rfl
          | other => rfl
        rw [e] at q
        exact q
theorem ok_row {f : Addr} {fd : FuncData} (F : FnP K "is_row" "is_row" s_is_row f fd) (N : Nms mg) : FnOk P w K mg base CX0 1 f fd ["thing"] (spRow K) := by
  refine F.ok sc_is_row (fun vs H Q E h => ?_) (fun cdv A outer s H vs Q E hr h => ?_)
  · obtain ⟨x, t, b1, b2, rfl, _⟩ := h
    rfl
  · obtain ⟨x, t, b1, b2, rfl, ty, k1, k2, q⟩ := h
    refine ⟨_, PSs.nox (pss_one (ps_ret (pe_callB call_isiT (by rfl) N.isi (by decide +kernel) (pa_cons (pv 0) (pa_cons (pe_tup (pa_cons (pe_bltn (v := .ty "list") (by rfl) N.list (by decide +kernel) rfl) (pa_cons (pe_bltn (v := .ty "tuple") (by rfl) N.tuple (by decide +kernel) rfl) pa_nil))) pa_nil))))), ?_⟩
    refine ⟨_, rfl, line_small (by show 2 ≤ 16777216; decide), fun p hp => ?_⟩
    have sm := same_new (o := .tup [.ty "list", .ty "tuple"]) hp
    refine ⟨x, p, _, t, [.type "list", .type "tuple"], b1 || b2, rfl, upd_same, .cons (.ty "list") (.cons (.ty "tuple") .nil), tyX_same ty sm, kit2 k1 k2, q _ sm⟩
/-- a thing that is asked whether it is a short text -/
inductive Short (K : PySem.W.Frag) (C : Addr) (H : Hp) : V → Bool → Prop
  | txt {l : List Nat} : l.length ≤ 2000 → Short K C H (.str (tx l)) ((l.all fun n => decide (n ∈ alpha)) && decide (1 ≤ l.length ∧ l.length ≤ 20))
  | off {x : V} {t : Value} : TyX K H x t → PySem.W.kitOne K t (.ref C) = some false → PySem.W.kitOne K t (.type "str") = some false → Short K C H x false
def spShort (K : PySem.W.Frag) (C : Addr) : Sp := fun vs H Q _ => ∃ x b, vs = [x] ∧ Short K C H x b ∧ Gives H Q (.bl b)
theorem ok_short {f : Addr} {fd : FuncData} (F : FnP K "is_short_text" "is_short_text" s_is_short_text f fd) (N : Nms mg) (Co : Cons mg) (I : Can P w K mg base CX0 "is_sign_text" ["thing"] 1 (spTextA K C)) : FnOk P w K mg base CX0 2 f fd ["thing"] (spShort K C) := by
  obtain ⟨fI, fdI, GI, gI, kI, bI⟩ := I
  obtain ⟨tB, gB⟩ := Co.text
  refine F.ok sc_is_short_text (fun vs H Q E h => ?_) (fun cdv A outer s H vs Q E hr h => ?_)
  · obtain ⟨x, b, rfl, _⟩ := h
    rfl
  · obtain ⟨x, b, rfl, sh, q⟩ := h
    refine ⟨_, PSs.nox (pss_one (ps_ret (pe_and (pe_call GI hr (by rfl) gI kI bI .nil pass0 (pa_cons (pv 0) pa_nil)) (pe_one (pe_chain op_le op_le pe_int (pe_callB call_len_str (by rfl) N.len PySem.boot_len (pa_cons (pv 0) pa_nil)) (pe_glob (v := .int 20) (by rfl) gB ⟨_, rfl⟩)))))), ?_⟩
    cases sh with
    | off ty kc ks => exact ⟨_, rfl, _, false, rfl, .off ty kc ks, fun _ _ => rfl, fun H1 s1 => ⟨false, rfl, iteF (q H1 s1)⟩⟩
    | @txt l hl =>
      refine ⟨_, rfl, _, _, rfl, .txt hl, (fun a z => by cases z), fun H1 s1 => ⟨_, rfl, ?_⟩⟩
      cases hb : (l.all fun n => decide (n ∈ alpha)) with
      | false =>
        rw [hb] at q
        exact iteF (q H1 s1)
      | true =>
        rw [hb, Bool.true_and] at q
        refine iteT ?_
        refine ⟨_, rfl, _, rfl, (by rw [len_tx]; exact line_small (by omega)), ?_⟩
        rw [len_tx]
        refine ⟨_, _, rfl, rfl, _, rfl, ?_⟩
        by_cases h1 : 1 ≤ l.length
        · have e : decide (1 ≤ l.length ∧ l.length ≤ 20) = decide (((l.length : Nat) : Int) ≤ 20) := by
            rw [decide_eq_decide]
            omega
          rw [e] at q
          refine (if_pos (decide_eq_true (by omega))).mpr ?_
          exact ⟨_, _, rfl, rfl, q H1 s1⟩
        · have e : decide (1 ≤ l.length ∧ l.length ≤ 20) = false := decide_eq_false (fun z => h1 z.1)
          rw [e] at q
          refine (if_neg (by simp; omega)).mpr ?_
          exact q H1 s1
end
end K04

set_option autoImplicit false
set_option maxErrors 4
namespace K04
open PySem PySem.Spec PyProof.Rows L2 Tl
/-! ### Kind(rows) -/
section
variable {H H' : Hp}
mutual
theorem nkT (s : ∀ b xs, H b = some (.tup xs) → H' b = some (.tup xs)) : ∀ (k : NestedKey) (v : V), NkV H k v → NkV H' k v
  | .none, _, x => by cases x; exact .non
  | .num i, _, x => by cases x; exact .int i
  | .text z, _, x => by cases x; exact .str z
  | .tup ks, _, x => by
    cases x with
    | tup e al => exact .tup (s _ _ e) (nkTA s ks _ al)
theorem nkTA (s : ∀ b xs, H b = some (.tup xs) → H' b = some (.tup xs)) : ∀ (ks : List NestedKey) (vs : List V), NkAll H ks vs → NkAll H' ks vs
  | [], _, x => by cases x; exact .nil
  | k :: ks, _, x => by
    cases x with
    | cons x1 x2 => exact .cons (nkT s k _ x1) (nkTA s ks _ x2)
end
end
theorem RowsAt.tups {H H' : Hp} {rs : Rws} (h : RowsAt H rs) (s : ∀ b xs, H b = some (.tup xs) → H' b = some (.tup xs)) : RowsAt H' rs := fun x hx => nkT s _ _ (h x hx)
/-- all but p stands as it stood -/
def But (p : Addr) (H H' : Hp) : Prop := ∀ x o, H x = some o → x ≠ p → H' x = some o
/-- a class of no arguments that is raised -/
structure Plain (K : PySem.W.Frag) (mg : Str → Option Value) (x : Str) (C : Addr) : Prop where
  g : mg x = some (.ref C)
  e : PySem.W.excIn K C He.veBase "ValueError.__new__" = true
  k : PySem.W.keepIn K (.ref C) = true
  s : PySem.W.subIn K (.ref C) (.type "BaseException") = some true
  t : PySem.W.typeIn K (.ref C) = some (.type "type")
theorem pmk_plain {X : Cx} {x : Str} {C : Addr} {p pos : Pos} (h : Plain X.K X.mg x C) (hg : Gl X x) (hdb : (x == ("__debug__" : Str)) = false := by decide) : L2N.PMk X (.Call (.Name x p) [] [] pos) (fun _ H Q => Q (.ref C) none H) :=
  pmkN_own0 F.excBase_ValueError h.e h.g h.k (raises_own h.s h.t) hg hdb
/-- what is asked of the class Kind -/
structure KindC (K : PySem.W.Frag) (KC : Addr) : Prop where
  cl : Cls K KC
  n1 : NoAttr K KC "rows"
  n2 : NoAttr K KC "net"
/-- the alternatives keep to the bounds of nets -/
def RowsOk (rs : Rws) : Prop := ∀ x ∈ rs, ∀ r ∈ x.1, RunOk r
theorem onceR_ok {rs : Rws} (h : RowsOk rs) : RowsOk (onceR rs) := fun x hx => h x (onceR_sub x hx)
theorem onceR_len (rs : Rws) : (onceR rs).length ≤ rs.length := by
  have z := onceR_take_len rs rs.length
  rw [List.take_of_length_le (Nat.le_refl _)] at z
  exact z
abbrev kindF (t n : Addr) : List (Str × V) := [("rows", .ref t), ("net", .ref n)]
theorem sum_mem {xs : List Nat} {x : Nat} (h : x ∈ xs) : x ≤ xs.sum := by
  induction xs with
  | nil => cases h
  | cons y r ih =>
    rw [List.sum_cons]
    rcases List.mem_cons.mp h with rfl | h
    · omega
    · have := ih h
      omega
theorem placesRs_mem {rs : Rws} {x : RowL × Addr} (h : x ∈ rs) : (placesR x.1).sum ≤ (placesRs rs).sum := by
  unfold placesRs
  induction rs with
  | nil => cases h
  | cons y r ih =>
    rw [List.flatMap_cons, List.sum_append]
    rcases List.mem_cons.mp h with rfl | h
    · omega
    · have := ih h
      omega
theorem charsOf_alts {rs : Rws} (h : RowsOk rs) (small : (placesRs rs).sum ≤ 500) : charsOf ((rs.map (·.1)).map altN) = (placesRs rs).sum := by
  unfold charsOf placesRs
  induction rs with
  | nil => rfl
  | cons y r ih =>
    have hy := placesRs_mem (rs := y :: r) (x := y) List.mem_cons_self
    have hr : (placesRs r).sum ≤ 500 := by
      unfold placesRs at small ⊢
      rw [List.flatMap_cons, List.sum_append] at small
      omega
    rw [List.flatMap_cons, List.sum_append, List.map_cons, List.map_cons, List.map_cons, List.sum_cons, ih (fun x hx => h x (List.mem_cons_of_mem _ hx)) hr, (altN_ok (h y List.mem_cons_self) (by omega)).2]
section
variable {P : Program} {w : World} {K : PySem.W.Frag} {mg : Str → Option Value} {base : Heap} {NC KC BK : Addr}
def spKInit (NC KC BK : Addr) : Sp := fun vs H Q E => ∃ (p dx l : Addr) (rs : Rws), vs = [.ref p, .ref l] ∧ H p = some (.ins KC dx []) ∧ (H l = some (.lst (rowsV rs)) ∨ H l = some (.tup (rowsV rs))) ∧ RowsAt H rs ∧ rs.length ≤ 1000 ∧ RowsOk rs ∧
  ((tooLarge (onceR rs) = true ∧ ∀ H', But p H H' → E (.ref BK) none H') ∨
   (tooLarge (onceR rs) = false ∧ ∀ t n H', But p H H' → H t = none → H' p = some (.ins KC dx (kindF t n)) → H' t = some (.tup (rowsV (onceR rs))) → NetAt NC H' n (kindN ((onceR rs).map (·.1))) → Q .non H'))
set_option maxHeartbeats 20000000 in
theorem ok_kinit {f : Addr} {fd : FuncData} (F : FnP K "__init__" "Kind.__init__" s_Kind_init_ f fd) (T : KindC K KC) (PB : Plain K mg "BadKind" BK) (W : Can P w K mg base CX0 "without_repeats" ["rows"] 1 spWr) (L : Can P w K mg base CX0 "is_too_large" ["rows"] 2 spToo)
    (S : Can P w K mg base CX0 "side_by_side" ["nets"] 4 (spNets NC sideL)) (A : Can P w K mg base CX0 "alternative_net" ["row"] 5 (spAlt NC)) : FnOk P w K mg base (L2N.CX P w) 6 f fd ["self", "rows"] (spKInit NC KC BK) := by
  obtain ⟨fW, fdW, GW, gW, kW, bW⟩ := W
  obtain ⟨fL, fdL, GL, gL, kL, bL⟩ := L
  obtain ⟨fS, fdS, GS, gS, kS, bS⟩ := S
  obtain ⟨fA, fdA, GA, gA, kA, bA⟩ := A
  have nd := sc_Kind_init_.nd
  refine F.ok sc_Kind_init_ (fun vs H Q E h => ?_) (fun cdv A outer s H vs Q E hr h => ?_)
  · obtain ⟨p, dx, l, rs, rfl, _⟩ := h
    rfl
  · obtain ⟨p, dx, l, rs, rfl, hp, hl, at_, len, ok, q⟩ := h
    have tk := L2N.takes_of (X := cxOf (L2N.CX P w) P w K mg base ["self", "rows", "row"] "Kind.__init__" (defScope s_Kind_init_) f cdv A outer s H E) (E := E) rfl rfl rfl rfl
    have r4 := hr.mono (show 4 ≤ 5 by decide)
    have r2 := hr.mono (show 2 ≤ 5 by decide)
    have r1 := hr.mono (show 1 ≤ 5 by decide)
    refine ⟨_, pss_cons (ps_fld (pv 0) (pe_call GW r1 (by rfl) gW kW bW .nil pass0 (pa_cons (pv 1) pa_nil)) rfl)
      (pss_cons (ps_if (pt_val (pe_call GL r2 (by rfl) gL kL bL .nil pass0 (pa_cons (pe_fld (pv 0) rfl) pa_nil))) (pss_one (L2N.ps_raise rfl tk (pmk_plain PB rfl))) pss_nil)
      (pss_one (ps_fld (pv 0) (pe_call GS r4 (by rfl) gS kS bS .nil pass0 (pa_cons (pe_lc (own := [("row", 2)]) (g := gName 2) (tt := tYes) rfl nd (pi_tup (pe_fld (pv 0) rfl)) (blkOk_by (N := ["self", "rows", "row"]) (sc := defScope s_Kind_init_) (by decide +kernel))
        (fun _ _ _ _ _ => pg_name (i := 2) nd rfl (Or.inl rfl)) (fun _ _ _ _ _ => pts_nil) (fun _ _ _ _ _ => pe_call GA hr (by rfl) gA kA bA .nil pass0 (pa_cons (pv 2) pa_nil))) pa_nil)) rfl))), ?_⟩
    refine ⟨_, rfl, l, rs, rfl, hl, at_, len, fun t H1 s1 ht0 ht => ?_⟩
    refine ⟨_, rfl, p, KC, dx, _, rfl, s1 _ _ hp, T.cl, T.n1, (by show 0 < 1000; decide), ?_⟩
    have ntp : t ≠ p := fun z => by rw [z, hp] at ht0; cases ht0
    have e1 : upd H1 p (.ins KC dx [("rows", .ref t)]) t = some (.tup (rowsV (onceR rs))) := by
      rw [upd_ne ntp]
      exact ht
    have tups : ∀ b xs, H1 b = some (.tup xs) → upd H1 p (.ins KC dx [("rows", .ref t)]) b = some (.tup xs) := fun b xs z => by
      by_cases e : b = p
      · rw [e, s1 _ _ hp] at z
        cases z
      · rw [upd_ne e]
        exact z
    have at1 : RowsAt (upd H1 p (.ins KC dx [("rows", .ref t)])) (onceR rs) := RowsAt.tups (fun x hx => ((at_.same s1) x (onceR_sub x hx))) tups
    have len1 : (onceR rs).length ≤ 1000 := Nat.le_trans (onceR_len rs) len
    have b1 : But p H (upd H1 p (.ins KC dx [("rows", .ref t)])) := fun x o e n => by
      rw [upd_ne n]
      exact s1 _ _ e
    show _
    refine ⟨_, rfl, p, KC, dx, _, _, rfl, upd_same, T.cl, T.n1, lk_hit, ?_⟩
    refine ⟨t, onceR rs, rfl, e1, at1, len1, fun H2 s2 => ⟨_, rfl, ?_⟩⟩
    rcases q with ⟨big, q⟩ | ⟨small, q⟩
    · rw [big]
      refine iteT ?_
      exact q _ fun x o e n => s2 _ _ (b1 x o e n)
    rw [small]
    refine iteF ?_
    have sums : (placesRs (onceR rs)).sum ≤ 120 ∧ (onceR rs).length ≤ 20 ∧ ∀ x ∈ onceR rs, x.1.length ≤ 20 := by
      unfold tooLarge at small
      rw [Bool.or_eq_false_iff, Bool.or_eq_false_iff] at small
      obtain ⟨⟨a1, a2⟩, a3⟩ := small
      have a1 := of_decide_eq_false a1
      have a3 := of_decide_eq_false a3
      refine ⟨by omega, by omega, fun x hx => ?_⟩
      have z := List.any_eq_false.mp a2 x hx
      simp only [decide_eq_true_eq] at z
      omega
    have hp2 := s2 _ _ (upd_same (H := H1) (a := p) (o := .ins KC dx [("rows", .ref t)]))
    have ht2 := s2 _ _ e1
    have at2 := at1.same s2
    have ok2 := onceR_ok ok
    have lenV : (rowsV (onceR rs)).length = (onceR rs).length := List.length_map _
    show _
    refine ⟨_, rfl, p, KC, dx, _, _, rfl, hp2, T.cl, T.n1, lk_hit, t, rfl, ⟨_, SqT.of ht2⟩, fun D hD => ?_⟩
    refine lc_it (n := (onceR rs).length) (by rw [← lenV]; exact walk_tup) (fun j H' => ∃ ps : Prs, H' D = some (.lst (refsP ps)) ∧ netsP ps = (((onceR rs).take j).map (·.1)).map altN ∧ (∀ x ∈ ps, NetOff NC D H' x.1 x.2 ∧ x.2.Ok) ∧ Same H2 H') ⟨[], upd_same, rfl, (fun x hx => by cases hx), same_new hD⟩ (fun j H' _ h => by
      obtain ⟨_, _, _, _, sm⟩ := h
      exact SqT.of (sm _ _ ht2)) ?_ ?_
    · rintro j y _ H3 hj ⟨ps, e4, en, na, sm⟩ ⟨rfl, hy⟩
      have ey : y = .ref (onceR rs)[j].2 := by
        unfold rowsV at hy
        rw [List.getElem?_map, List.getElem?_eq_getElem hj] at hy
        exact (Option.some.inj hy).symm
      subst ey
      have mem := List.getElem_mem hj
      have pl := placesRs_mem mem
      refine ⟨rfl, yes_keep ?_⟩
      refine ⟨_, rfl, _, (onceR rs)[j].1, rfl, ((at2 _ mem).same sm), ok2 _ mem, by omega, (Nat.le_trans (sums.2.2 _ mem) (by decide)), fun n nc nf H4 s4 hn0 hnc hnf nat => ?_⟩
      have eD := s4 _ _ e4
      have lp : ps.length = j := by
        have z := congrArg List.length en
        unfold netsP at z
        rw [List.length_map, List.length_map, List.length_map, List.length_take] at z
        omega
      have keep : ∀ b o, b ≠ D → H4 b = some o → (upd H4 D (.lst (refsP ps ++ [.ref n]))) b = some o := fun b o nb z => by
        rw [upd_ne nb]
        exact z
      have okn := altN_ok (ok2 _ mem) (show (placesR (onceR rs)[j].1).sum ≤ 500 by omega)
      refine ⟨_, eD, ?_, ps ++ [(n, altN (onceR rs)[j].1)], ?_, ?_, ?_, fun b o z => ?_⟩
      · unfold refsP
        rw [List.length_map, lp]
        exact small1000 (by omega)
      · rw [upd_same]
        unfold refsP
        rw [List.map_append]
        rfl
      · unfold netsP at en ⊢
        rw [List.map_append, en, List.take_add_one, List.getElem?_eq_getElem hj, List.map_append, List.map_append]
        rfl
      · intro x hx
        rcases List.mem_append.mp hx with hx | hx
        · exact ⟨((na x hx).1.same fun b o _ z => s4 _ _ z).same keep, (na x hx).2⟩
        · rw [List.mem_singleton.mp hx]
          exact ⟨(nat.off hn0 hnc hnf e4).same keep, okn.1⟩
      · rw [upd_ne (ne_of_none z hD)]
        exact s4 _ _ (sm _ _ z)
    · rintro H3 ⟨ps, e4, en, na, sm⟩
      rw [List.take_of_length_le (Nat.le_refl _)] at en
      refine ⟨D, ps, rfl, e4, fun x hx => ⟨(na x hx).1.at, (na x hx).2⟩, ?_, ?_⟩
      · rw [en, charsOf_alts ok2 (by omega)]
        omega
      · rw [en]
        refine fun n nc nf H4 s4 hn hc hf net => ?_
        have hp4 := s4 _ _ (sm _ _ hp2)
        have ht4 := s4 _ _ (sm _ _ ht2)
        refine ⟨_, rfl, p, KC, dx, _, rfl, hp4, T.cl, T.n2, (by show 1 < 1000; decide), ?_⟩
        refine q t n _ (fun x o e nx => ?_) ht0 ?_ ?_ (net.put hn hc hf (sm _ _ hp2))
        · rw [upd_ne nx]
          exact s4 _ _ (sm _ _ (s2 _ _ (b1 x o e nx)))
        · rw [upd_same]
          rfl
        · rw [upd_ne ntp]
          exact ht4
end
end K04

set_option autoImplicit false
set_option maxErrors 4
namespace K04
open PySem PySem.Spec PyProof.Rows L2 Tl
/-! ### Kind.run, Kind.words -/
/-- a kind stands at k -/
def KindAt (KC NC : Addr) (H : Hp) (k : Addr) (rows : List RowL) : Prop := ∃ (dx t n : Addr) (rs : Rws), H k = some (.ins KC dx (kindF t n)) ∧ H t = some (.tup (rowsV rs)) ∧ rs.map (·.1) = rows ∧ RowsAt H rs ∧ NetAt NC H n (kindN rows)
theorem KindAt.same {KC NC : Addr} {H H' : Hp} {k : Addr} {rows : List RowL} (h : KindAt KC NC H k rows) (s : Same H H') : KindAt KC NC H' k rows := by
  obtain ⟨dx, t, n, rs, h1, h2, h3, h4, h5⟩ := h
  exact ⟨dx, t, n, rs, s _ _ h1, s _ _ h2, h3, h4.same s, h5.same s⟩
/-- the same, its net left aside -/
def KindL (KC : Addr) (H : Hp) (k : Addr) (rows : List RowL) : Prop := ∃ (dx t n : Addr) (rs : Rws), H k = some (.ins KC dx (kindF t n)) ∧ H t = some (.tup (rowsV rs)) ∧ rs.map (·.1) = rows ∧ RowsAt H rs
theorem KindAt.lite {KC NC : Addr} {H : Hp} {k : Addr} {rows : List RowL} (h : KindAt KC NC H k rows) : KindL KC H k rows := by
  obtain ⟨dx, t, n, rs, h1, h2, h3, h4, _⟩ := h
  exact ⟨dx, t, n, rs, h1, h2, h3, h4⟩
theorem KindL.same {KC : Addr} {H H' : Hp} {k : Addr} {rows : List RowL} (h : KindL KC H k rows) (s : Same H H') : KindL KC H' k rows := by
  obtain ⟨dx, t, n, rs, h1, h2, h3, h4⟩ := h
  exact ⟨dx, t, n, rs, s _ _ h1, s _ _ h2, h3, h4.same s⟩
/-- instances and tuples stay -/
theorem KindL.stay {KC : Addr} {H H' : Hp} {k : Addr} {rows : List RowL} (h : KindL KC H k rows) (si : ∀ a C dx fs, H a = some (.ins C dx fs) → H' a = some (.ins C dx fs)) (st : ∀ b xs, H b = some (.tup xs) → H' b = some (.tup xs)) : KindL KC H' k rows := by
  obtain ⟨dx, t, n, rs, h1, h2, h3, h4⟩ := h
  exact ⟨dx, t, n, rs, si _ _ _ _ h1, st _ _ h2, h3, h4.tups st⟩
abbrev GivesKind (KC NC : Addr) (H : Hp) (Q : VK) (rows : List RowL) : Prop := ∀ (k : Addr) (H' : Hp), Same H H' → H k = none → KindAt KC NC H' k rows → Q (.ref k) H'
abbrev Raised (H : Hp) (E : XK) (C : Addr) : Prop := ∀ H', Same H H' → E (.ref C) none H'
/-- what is kept of rows, each where it stands first -/
def putL (acc : List RowL) (r : RowL) : List RowL := if r ∈ acc then acc else acc ++ [r]
def onceL (rows : List RowL) : List RowL := rows.foldl putL []
theorem onceR_fst (rs : Rws) : (onceR rs).map (·.1) = onceL (rs.map (·.1)) := by
  have key : ∀ (xs acc : Rws), (xs.foldl putR acc).map (·.1) = (xs.map (·.1)).foldl putL (acc.map (·.1)) := by
    intro xs
    induction xs with
    | nil => exact fun _ => rfl
    | cons x xs ih =>
      intro acc
      rw [List.foldl_cons, List.map_cons, List.foldl_cons, ih]
      congr 1
      unfold putR putL
      split
      · rfl
      · rw [List.map_append]
        rfl
  exact key rs []
/-- too many alternatives, runs, places -/
def bigL (rows : List RowL) : Bool := decide (20 < rows.length) || (rows.any fun r => decide (20 < r.length)) || decide (120 < (rows.flatMap placesR).sum)
theorem tooLarge_fst (rs : Rws) : tooLarge rs = bigL (rs.map (·.1)) := by
  unfold tooLarge bigL placesRs
  rw [List.length_map, List.any_map, List.flatMap_map]
  rfl
theorem onceL_sub {rows : List RowL} : ∀ r ∈ onceL rows, r ∈ rows := by
  have key : ∀ (xs acc : List RowL), ∀ y ∈ xs.foldl putL acc, y ∈ acc ∨ y ∈ xs := by
    intro xs
    induction xs with
    | nil => exact fun acc y h => .inl h
    | cons x xs ih =>
      intro acc y h
      rcases ih _ y h with h | h
      · unfold putL at h
        split at h
        · exact .inl h
        · rcases List.mem_append.mp h with h | h
          · exact .inl h
          · exact .inr (by rw [List.mem_singleton.mp h]; exact List.mem_cons_self)
      · exact .inr (List.mem_cons_of_mem _ h)
  intro y h
  exact (key rows [] y h).elim (fun z => by cases z) id
/-- a kind or its refusal -/
def Out (KC BK : Addr) (H : Hp) (Q : VK) (E : XK) (rows : List RowL) : Prop := (bigL (onceL rows) = true → Raised H E BK) ∧ (bigL (onceL rows) = false → ∀ (k : Addr) (H' : Hp), Same H H' → KindL KC H' k (onceL rows) → Q (.ref k) H')
section
variable {KC NC BK : Addr}
theorem make_kind {H : Hp} {Q : VK} {E : XK} {l : Addr} {rs : Rws} (hl : H l = some (.lst (rowsV rs)) ∨ H l = some (.tup (rowsV rs))) (at_ : RowsAt H rs) (len : rs.length ≤ 1000) (ok : RowsOk rs) (q : Out KC BK H Q E (rs.map (·.1))) :
    ∀ x dx, H x = none → H dx = none → dx ≠ x → spKInit NC KC BK (.ref x :: ([.ref l] ++ [])) (upd (upd H dx (.own x)) x (.ins KC dx [])) (fun v H2 => v = .non ∧ Q (.ref x) H2) E := by
  intro x dx hx hdx ne
  have far : Same H (upd (upd H dx (.own x)) x (.ins KC dx [])) := fun b o e => by
    rw [upd_ne (ne_of_none e hx), upd_ne (ne_of_none e hdx)]
    exact e
  have onw : ∀ {H'}, But x (upd (upd H dx (.own x)) x (.ins KC dx [])) H' → Same H H' := fun k b o e => k b o (far b o e) (ne_of_none e hx)
  refine ⟨x, dx, l, rs, rfl, upd_same, hl.imp (far _ _) (far _ _), at_.same far, len, ok, ?_⟩
  obtain ⟨q1, q2⟩ := q
  rw [tooLarge_fst, onceR_fst]
  cases hb : bigL (onceL (rs.map (·.1))) with
  | true => exact .inl ⟨rfl, fun H' k => q1 hb H' (onw k)⟩
  | false => exact .inr ⟨rfl, fun t n H' k ht hk et en => ⟨rfl, q2 hb x H' (onw k) ⟨dx, t, n, onceR rs, hk, et, onceR_fst rs, fun y hy => (at_.same (onw k)) y (onceR_sub y hy)⟩⟩⟩
end
/-- what is shown to run as signs -/
inductive Spl (K : PySem.W.Frag) (C : Addr) (H : Hp) : V → Option (List Nat) → Prop
  | set {a : Addr} {S : List Nat} : Sg C H a S → Spl K C H (.ref a) (some S)
  | txt {l : List Nat} : SgT l → Spl K C H (.str (tx l)) (some (norm l))
  | bad {l : List Nat} : l.length ≤ 2000 → (l.all fun n => decide (n ∈ alpha)) = false → Spl K C H (.str (tx l)) none
  | off {x : V} {t : Value} : TyX K H x t → PySem.W.kitOne K t (.ref C) = some false → PySem.W.kitOne K t (.type "str") = some false → Spl K C H x none
theorem Sg.same {C : Addr} {H H' : Hp} {a : Addr} {S : List Nat} (h : Sg C H a S) (s : Same H H') : Sg C H' a S := h.at fun _ e => s _ _ e
theorem Spl.same {K : PySem.W.Frag} {C : Addr} {H H' : Hp} {x : V} {S : Option (List Nat)} (h : Spl K C H x S) (s : Same H H') : Spl K C H' x S := by
  cases h with
  | set g => exact .set (g.same s)
  | txt g => exact .txt g
  | bad g e => exact .bad g e
  | off t a b => exact .off (tyX_same t s) a b
theorem Spl.ask {K : PySem.W.Frag} {C : Addr} {H : Hp} {x : V} {S : Option (List Nat)} (h : Spl K C H x S) : Asked K C H x S.isSome := by
  cases h with
  | set g => exact .set g
  | @txt l g =>
    have z := Asked.txt (K := K) (C := C) (H := H) g.few
    rw [List.all_eq_true.mpr fun n hn => decide_eq_true (g.sub n hn)] at z
    exact z
  | bad g e =>
    have z := Asked.txt (K := K) (C := C) (H := H) g
    rw [e] at z
    exact z
  | off t a b => exact .off t a b
theorem Spl.opd {K : PySem.W.Frag} {C : Addr} {H : Hp} {x : V} {S : List Nat} (h : Spl K C H x (some S)) : Opd C H x S := by
  cases h with
  | set g => exact .inl ⟨_, rfl, g⟩
  | txt g => exact .inr ⟨_, rfl, g, rfl⟩
theorem Spl.few {K : PySem.W.Frag} {C : Addr} {H : Hp} {x : V} {S : List Nat} (h : Spl K C H x (some S)) : S.length ≤ 94 := by
  cases h with
  | set g => exact g.len
  | txt g => exact norm_len _
def runOk : Option (List Nat) → Option (Nat × Option Nat) → Option RunL
  | some [], _ => none
  | some (n :: S), some (l, m) => some (tx (n :: S), l, m)
  | _, _ => none
theorem bounds_some {K : PySem.W.Frag} {H : Hp} {y z : V} {a b : Bn} {l : Nat} {m : Option Nat} (h : boundsOk a b = some (l, m)) (ha : BnAt K H y a) (hb : BnAt K H z b) : y = .int (l : Nat) ∧ z = mostV m ∧ l ≤ 40 ∧ ∀ n, m = some n → l ≤ n ∧ n ≤ 40 := by
  cases a with
  | none => cases b <;> cases h
  | other => cases b <;> cases h
  | int i =>
    cases ha
    cases b with
    | other => cases h
    | none =>
      cases hb
      rw [bo_n] at h
      split at h
      · rename_i c
        have h := Option.some.inj h
        cases h
        exact ⟨by rw [Int.toNat_of_nonneg c.1], rfl, by omega, fun n z => by cases z⟩
      · cases h
    | int j =>
      cases hb
      rw [bo_i] at h
      split at h
      · rename_i c
        have h := Option.some.inj h
        cases h
        refine ⟨by rw [Int.toNat_of_nonneg c.1], ?_, by omega, fun n z => ?_⟩
        · show V.int j = V.int (j.toNat : Nat)
          rw [Int.toNat_of_nonneg (by omega)]
        · cases z
          omega
      · cases h
theorem tx_nil {S : List Nat} : (V.str (tx S) = V.str "") ↔ S = [] := by
  constructor
  · intro h
    have h2 : tx S = "" := V.str.inj h
    have h3 := congrArg (fun z : Str => z.cps.toList) h2
    have e : ("" : Str).cps.toList = [] := rfl
    rw [e] at h3
    simpa [tx] using h3
  · rintro rfl
    rfl
section
variable {P : Program} {w : World} {K : PySem.W.Frag} {mg : Str → Option Value} {base : Heap} {NC KC BK C : Addr}
/-- how Kind(..) is made -/
def CanKind (P : Program) (w : World) (K : PySem.W.Frag) (mg : Str → Option Value) (base : Heap) (NC KC BK : Addr) : Prop := ∃ f fd, Mk K KC f ∧ mg "Kind" = some (.ref KC) ∧ Binds K fd ["self", "rows"] [] ∧ FnOk P w K mg base (L2N.CX P w) 6 f fd ["self", "rows"] (spKInit NC KC BK)
def spRun (K : PySem.W.Frag) (NC KC BK C : Addr) : Sp := fun vs H Q E => ∃ (x y z : V) (S : Option (List Nat)) (a b : Bn), vs = [x, y, z] ∧ Spl K C H x S ∧ BnAt K H y a ∧ BnAt K H z b ∧
  (runOk S (boundsOk a b) = none → Raised H E BK) ∧ (∀ r, runOk S (boundsOk a b) = some r → ∀ (k : Addr) (H' : Hp), Same H H' → KindL KC H' k [[r]] → Q (.ref k) H')
set_option maxHeartbeats 20000000 in
theorem ok_run {f : Addr} {fd : FuncData} (F : FunD K "run" "Kind.run" (defArgs s_Kindrun) (defBody s_Kindrun) (defScope s_Kindrun) [.int 1, .int 1] [] f fd) (PB : Plain K mg "BadKind" BK) (M : CanKind P w K mg base NC KC BK)
    (S : Can P w K mg base CX0 "is_signs" ["thing"] 2 (spSigns K C)) (B : Can P w K mg base CX0 "are_bounds" ["least", "most"] 3 (spBounds K)) (O : Can P w K mg base CX0 "signs_of" ["thing"] 4 (spOf C)) : FnOk P w K mg base (L2N.CX P w) 8 f fd ["signs", "least", "most"] (spRun K NC KC BK C) := by
  obtain ⟨fS, fdS, GS, gS, kS, bS⟩ := S
  obtain ⟨fB, fdB, GB, gB, kB, bB⟩ := B
  obtain ⟨fO, fdO, GO, gO, kO, bO⟩ := O
  obtain ⟨fM, fdM, MM, gM, bM, GM⟩ := M
  have nd := sc_Kindrun.nd
  refine F.ok sc_Kindrun (fun vs H Q E h => ?_) (fun cdv A outer s H vs Q E hr h => ?_)
  · obtain ⟨x, y, z, S, a, b, rfl, _⟩ := h
    rfl
  · obtain ⟨x, y, z, S, a, b, rfl, hx, ha, hb, out, q⟩ := h
    have tk := L2N.takes_of (X := cxOf (L2N.CX P w) P w K mg base ["signs", "least", "most", "spelling"] "Kind.run" (defScope s_Kindrun) f cdv A outer s H E) (E := E) rfl rfl rfl rfl
    refine ⟨_, pss_cons (ps_if (PW.pt (pw_or (pt_not (pt_val (pe_call GS (hr.mono (by decide)) (by rfl) gS kS bS .nil pass0 (pa_cons (pv 0) pa_nil)))) (pw_or1 (pt_not (pt_val (pe_call GB (hr.mono (by decide)) (by rfl) gB kB bB .nil pass0 (pa_cons (pv 1) (pa_cons (pv 2) pa_nil)))))))) (pss_one (L2N.ps_raise rfl tk (pmk_plain PB rfl))) pss_nil)
      (pss_cons (ps_set (i := 3) nd rfl (.inl rfl) (pe_call GO (hr.mono (by decide)) (by rfl) gO kO bO .nil pass0 (pa_cons (pv 0) pa_nil)))
      (pss_cons (ps_if (pt_cmpR op_eq (pv 3) pe_str (nomark _)) (pss_one (L2N.ps_raise rfl tk (pmk_plain PB rfl))) pss_nil)
      (pss_one (ps_ret (pe_make MM GM hr (by rfl) gM bM .nil (L2N.passes_call tk (fun _ _ _ _ h => h)) (pa_cons (pe_lst (pa_cons (pe_tup (pa_cons (pe_tup (pa_cons (pv 3) (pa_cons (pv 1) (pa_cons (pv 2) pa_nil)))) pa_nil)) pa_nil)) pa_nil)))))), ?_⟩
    refine ⟨_, rfl, x, _, rfl, hx.ask, fun H1 s1 => ⟨_, rfl, ?_⟩⟩
    cases S with
    | none => exact iteT (out (by cases boundsOk a b <;> rfl) H1 s1)
    | some S =>
      refine iteF ?_
      refine ⟨_, rfl, _, rfl, y, z, a, b, rfl, ha.same s1, hb.same s1, _, rfl, ?_⟩
      cases hbo : boundsOk a b with
      | none =>
        rw [hbo] at out
        exact iteT (out (by cases S <;> rfl) H1 s1)
      | some lm =>
        obtain ⟨l, m⟩ := lm
        refine iteF ?_
        refine ⟨_, rfl, x, S, rfl, (hx.same s1).opd, fun H2 s2 => ?_⟩
        refine name_go ?_
        dsimp only
        have s02 := s1.trans s2
        refine ⟨_, rfl, rfl, _, rfl, ?_⟩
        obtain ⟨rfl, rfl, l40, mb⟩ := bounds_some hbo ha hb
        by_cases hS : S = []
        · subst hS
          refine (if_pos (decide_eq_true (tx_nil.mpr rfl))).mpr ?_
          rw [hbo] at out
          exact out rfl H2 s02
        · refine (if_neg (fun y => hS (tx_nil.mp (of_decide_eq_true y)))).mpr ?_
          have er : runOk (some S) (boundsOk a b) = some (tx S, l, m) := by
            rw [hbo]
            cases S with
            | nil => exact absurd rfl hS
            | cons n S => rfl
          have q := q _ er
          show _
          refine ⟨_, rfl, _, rfl, _, rfl, line_small (by show 3 ≤ 16777216; decide), fun p1 n1 => ?_⟩
          refine ⟨line_small (by show 1 ≤ 16777216; decide), fun p2 n2 => ?_⟩
          refine ⟨line_small (by show 1 ≤ 16777216; decide), fun p3 n3 => ?_⟩
          have k1 := same_new (o := .tup [.str (tx S), .int (l : Nat), mostV m]) n1
          have k2 := same_new (o := .tup [.ref p1]) n2
          have k3 := same_new (o := .lst [.ref p2]) n3
          have k := k1.trans (k2.trans k3)
          have e1 := k3 _ _ (k2 _ _ (upd_same (H := H2) (a := p1) (o := .tup [.str (tx S), .int (l : Nat), mostV m])))
          have e2 := k3 _ _ (upd_same (H := upd H2 p1 (.tup [.str (tx S), .int (l : Nat), mostV m])) (a := p2) (o := .tup [.ref p1]))
          have row := row_is (bs := [((tx S, l, m), p1)]) e2 (fun x hx => by rw [List.mem_singleton.mp hx]; exact e1)
          have pl : pcL l m ≤ 40 := by
            cases m with
            | none => exact Nat.max_le.mpr ⟨l40, by decide⟩
            | some n => exact (mb n rfl).2
          have okr : RunOk (tx S, l, m) := ⟨by show (tx S).cps.size ≤ 1000; simp only [tx, List.size_toArray]; have := hx.few; omega, fun n e => (mb n e).1, by show pcL l m ≤ 500; omega⟩
          refine make_kind (rs := [([(tx S, l, m)], p2)]) (.inl upd_same) (fun x hx => by rw [List.mem_singleton.mp hx]; exact row) (by show 1 ≤ 1000; decide) (fun x hx r hr => by
            rw [List.mem_singleton.mp hx] at hr
            rw [List.mem_singleton.mp hr]
            exact okr) ⟨fun big => ?_, fun _ kk H' s3 at_ => q kk H' ((s02.trans k).trans s3) at_⟩
          exfalso
          have no : bigL (onceL [[(tx S, l, m)]]) = false := by
            show (decide (20 < 1) || (([[(tx S, l, m)]] : List RowL).any fun r => decide (20 < r.length)) || decide (120 < (([[(tx S, l, m)]] : List RowL).flatMap placesR).sum)) = false
            have es : (([[(tx S, l, m)]] : List RowL).flatMap placesR).sum = pcL l m := by
              unfold placesR pcR
              simp
            rw [es, decide_eq_false (show ¬ 120 < pcL l m by omega)]
            rfl
          have big2 : bigL (onceL [[(tx S, l, m)]]) = true := big
          rw [no] at big2
          cases big2
theorem Short.same {H H' : Hp} {x : V} {b : Bool} (h : Short K C H x b) (s : Same H H') : Short K C H' x b := by
  cases h with
  | txt g => exact .txt g
  | off t a b => exact .off (tyX_same t s) a b
abbrev wordV (l : List Nat) : V := .str (tx l)
def wordsV (ws : List (List Nat)) : List V := ws.map wordV
def wordRow (l : List Nat) : RowL := l.map fun n => (sg n, 1, some 1)
end
end K04

set_option autoImplicit false
set_option maxErrors 4
/-! Data that stand stay data. -/
namespace Tl
open PySem PySem.Spec PyProof.Rows L2
variable {K : PySem.W.Frag} {H H' : Hp}
theorem rd_same {a : Addr} {u : HO} (h : Rd H a u) (s : Same H H') : Rd H' a u := h.imp (fun e => s _ _ e) fun ⟨o, e⟩ => ⟨o, s _ _ e⟩
theorem sqL_same {a : Addr} {xs : List V} (h : SqL K H a xs) (s : Same H H') : SqL K H' a xs := h.imp (fun r => rd_same r s) id
theorem sqT_same {a : Addr} {xs : List V} (h : SqT K H a xs) (s : Same H H') : SqT K H' a xs := h.imp (fun r => rd_same r s) id
mutual
theorem dp_same (s : Same H H') : ∀ (d : PyData) (v : V), Dp K H v d → Dp K H' v d
  | .none, _, h => by
    cases h
    exact .non
  | .bool b, _, h => by
    cases h
    exact .bl b
  | .int i, _, h => by
    cases h
    exact .int i
  | .str z, _, h => by
    cases h
    exact .str z
  | .list ds, _, h => by
    cases h with
    | lst e all => exact .lst (sqL_same e s) (dp_sameA s ds _ all)
  | .tuple ds, _, h => by
    cases h with
    | tup e all => exact .tup (sqT_same e s) (dp_sameA s ds _ all)
  | .dict _, _, h => by cases h
theorem dp_sameA (s : Same H H') : ∀ (ds : List PyData) (vs : List V), DpAll K H vs ds → DpAll K H' vs ds
  | [], _, h => by
    cases h
    exact .nil
  | d :: ds, _, h => by
    cases h with
    | cons a b => exact .cons (dp_same s d _ a) (dp_sameA s ds _ b)
end
end Tl

set_option autoImplicit false
set_option maxErrors 4
namespace K04
open PySem PySem.Spec PyProof.Rows L2 Tl
/-! ### alternatives as data -/
def mostD (m : Option Nat) : PyData := m.elim .none fun n => .int (n : Nat)
def runD (r : RunL) : PyData := .tuple [.str r.1, .int (r.2.1 : Nat), mostD r.2.2]
def rowD (r : RowL) : PyData := .tuple (r.map runD)
def rowsD (rs : List RowL) : PyData := .tuple (rs.map rowD)
theorem most_dp {K : PySem.W.Frag} {H : Hp} (m : Option Nat) : Dp K H (mostV m) (mostD m) := by
  cases m with
  | none => exact .non
  | some n => exact .int _
theorem run_dp {K : PySem.W.Frag} {H : Hp} {b : Addr} {r : RunL} (h : RunAt H b r) : Dp K H (.ref b) (runD r) := .tup (SqT.of h) (.cons (.str _) (.cons (.int _) (.cons (most_dp _) .nil)))
theorem runs_dp {K : PySem.W.Frag} {H : Hp} : ∀ {bs : Rns}, (∀ x ∈ bs, RunAt H x.2 x.1) → DpAll K H (runsV bs) ((bs.map (·.1)).map runD)
  | [], _ => .nil
  | x :: bs, h => .cons (run_dp (h x List.mem_cons_self)) (runs_dp fun y hy => h y (List.mem_cons_of_mem _ hy))
theorem row_dp {K : PySem.W.Frag} {H : Hp} {r : RowL} {a : Addr} (h : NkV H (rowK r) (.ref a)) : Dp K H (.ref a) (rowD r) := by
  obtain ⟨bs, e1, e2, e3⟩ := row_at h
  subst e1
  exact .tup (SqT.of e2) (runs_dp e3)
theorem rows_dp {K : PySem.W.Frag} {H : Hp} : ∀ {rs : Rws}, RowsAt H rs → DpAll K H (rowsV rs) ((rs.map (·.1)).map rowD)
  | [], _ => .nil
  | x :: rs, h => .cons (row_dp (h x List.mem_cons_self)) (rows_dp fun y hy => h y (List.mem_cons_of_mem _ hy))
theorem eqvAll_inj {α : Type} [DecidableEq α] {f : α → PyData} (h : ∀ x y, PyData.eqv (f x) (f y) = decide (x = y)) : ∀ l k : List α, PyData.eqvAll (l.map f) (k.map f) = decide (l = k)
  | [], [] => by simp [PyData.eqvAll]
  | [], y :: k => by simp [PyData.eqvAll]
  | x :: l, [] => by simp [PyData.eqvAll]
  | x :: l, y :: k => by
    rw [List.map_cons, List.map_cons, PyData.eqvAll, h x y, eqvAll_inj h l k]
    simp
theorem eqv_most (a b : Option Nat) : PyData.eqv (mostD a) (mostD b) = decide (a = b) := by
  cases a with
  | none => cases b <;> simp [mostD, PyData.eqv]
  | some a =>
    cases b with
    | none => simp [mostD, PyData.eqv]
    | some b =>
      show ((a : Int) == (b : Int)) = decide (some a = some b)
      rw [Bool.eq_iff_iff, beq_iff_eq, decide_eq_true_eq]
      constructor
      · intro h
        rw [Int.ofNat.inj h]
      · intro h
        cases h
        rfl
theorem eqv_run (a b : RunL) : PyData.eqv (runD a) (runD b) = decide (a = b) := by
  obtain ⟨a1, a2, a3⟩ := a
  obtain ⟨b1, b2, b3⟩ := b
  unfold runD
  simp only [PyData.eqv, PyData.eqvAll, eqv_most]
  rw [Bool.eq_iff_iff]
  simp
  intro _ _
  constructor <;> intro h <;> omega
theorem eqv_row (a b : RowL) : PyData.eqv (rowD a) (rowD b) = decide (a = b) := by
  unfold rowD
  rw [PyData.eqv, eqvAll_inj eqv_run]
theorem eqv_rows (a b : List RowL) : PyData.eqv (rowsD a) (rowsD b) = decide (a = b) := by
  unfold rowsD
  rw [PyData.eqv, eqvAll_inj eqv_row]
/-- the texts of the runs can be read -/
def TxR (r : RowL) : Prop := ∀ x ∈ r, PyData.strOk x.1 = true
theorem runD_ok {x : RunL} (h : PyData.strOk x.1 = true) : (runD x).canLay0 = true ∧ (runD x).depth ≤ 2 := by
  obtain ⟨a, b, c⟩ := x
  cases c <;> simp [runD, mostD, PyData.canLay0, PyData.canLayAll0, PyData.depth, PyData.depthAll] <;> exact h
theorem all_ok {α : Type} {f : α → PyData} {n : Nat} : ∀ {l : List α}, (∀ x ∈ l, (f x).canLay0 = true ∧ (f x).depth ≤ n) → PyData.canLayAll0 (l.map f) = true ∧ PyData.depthAll (l.map f) ≤ n
  | [], _ => ⟨by simp [PyData.canLayAll0], by simp [PyData.depthAll]⟩
  | x :: l, h => by
    obtain ⟨a, b⟩ := h x List.mem_cons_self
    obtain ⟨c, d⟩ := all_ok fun y hy => h y (List.mem_cons_of_mem _ hy)
    refine ⟨?_, ?_⟩
    · rw [List.map_cons, PyData.canLayAll0, a, c]
      rfl
    · rw [List.map_cons, PyData.depthAll]
      omega
theorem rowD_ok {r : RowL} (h : TxR r) : (rowD r).canLay0 = true ∧ (rowD r).depth ≤ 3 := by
  obtain ⟨a, b⟩ := all_ok (f := runD) (n := 2) fun x hx => runD_ok (h x hx)
  unfold rowD
  refine ⟨by rw [PyData.canLay0]; exact a, by rw [PyData.depth]; omega⟩
theorem rowsD_ok {rs : List RowL} (h : ∀ r ∈ rs, TxR r) : (rowsD rs).canLay0 = true ∧ (rowsD rs).depth ≤ 4 := by
  obtain ⟨a, b⟩ := all_ok (f := rowD) (n := 3) fun x hx => rowD_ok (h x hx)
  unfold rowsD
  refine ⟨by rw [PyData.canLay0]; exact a, by rw [PyData.depth]; omega⟩
theorem shaped_of {d : PyData} {n : Nat} (h : d.canLay0 = true ∧ d.depth ≤ n) (hn : n ≤ 64) : SeqAt.shaped d = true := by
  unfold SeqAt.shaped
  rw [h.1, Bool.true_and]
  exact decide_eq_true (by omega)
theorem listD_ok {rs : List RowL} (h : ∀ r ∈ rs, TxR r) : SeqAt.shaped (.list (rs.map rowD)) = true := by
  obtain ⟨a, b⟩ := all_ok (f := rowD) (n := 3) fun x hx => rowD_ok (h x hx)
  refine shaped_of (n := 4) ⟨by rw [PyData.canLay0]; exact a, by rw [PyData.depth]; omega⟩ (by decide)
/-! ### the operators, as they are reckoned -/
def prodL (a b : List RowL) : List RowL := a.flatMap fun x => b.map fun y => x ++ y
theorem prodL_len (a b : List RowL) : (prodL a b).length = a.length * b.length := by
  unfold prodL
  induction a with
  | nil => simp
  | cons x r ih =>
    rw [List.flatMap_cons, List.length_append, List.length_map, ih, List.length_cons, Nat.succ_mul]
    omega
theorem prodL_mem {a b : List RowL} {r : RowL} (h : r ∈ prodL a b) : ∃ x ∈ a, ∃ y ∈ b, r = x ++ y := by
  unfold prodL at h
  obtain ⟨x, hx, h⟩ := List.mem_flatMap.mp h
  obtain ⟨y, hy, e⟩ := List.mem_map.mp h
  exact ⟨x, hx, y, hy, e.symm⟩
theorem onceL_ne {rows : List RowL} (h : rows ≠ []) : onceL rows ≠ [] := by
  have key : ∀ (xs acc : List RowL), acc ≠ [] → xs.foldl putL acc ≠ [] := by
    intro xs
    induction xs with
    | nil => exact fun _ h => h
    | cons x xs ih =>
      intro acc h
      refine ih _ ?_
      unfold putL
      split
      · exact h
      · simp
  cases rows with
  | nil => exact absurd rfl h
  | cons x r => exact key r _ (by unfold putL; simp)
/-- the alternatives of a kind -/
structure Fine (rows : List RowL) : Prop where
  big : bigL rows = false
  ne : rows ≠ []
  ok : ∀ r ∈ rows, r ≠ [] ∧ ∀ x ∈ r, RunOk x
theorem Fine.len {rows : List RowL} (h : Fine rows) : rows.length ≤ 20 := by
  have z := h.big
  unfold bigL at z
  rw [Bool.or_eq_false_iff, Bool.or_eq_false_iff] at z
  have := of_decide_eq_false z.1.1
  omega
theorem Fine.row {rows : List RowL} (h : Fine rows) {r : RowL} (m : r ∈ rows) : r.length ≤ 20 := by
  have z := h.big
  unfold bigL at z
  rw [Bool.or_eq_false_iff, Bool.or_eq_false_iff] at z
  have y := List.any_eq_false.mp z.1.2 r m
  simp only [decide_eq_true_eq] at y
  omega
theorem fine_prod {a b : List RowL} (ha : Fine a) (hb : Fine b) (small : bigL (onceL (prodL a b)) = false) : Fine (onceL (prodL a b)) := by
  refine ⟨small, onceL_ne ?_, fun r m => ?_⟩
  · intro e
    have z := congrArg List.length e
    rw [prodL_len] at z
    have h1 : 0 < a.length := List.length_pos_iff.mpr ha.ne
    have h2 : 0 < b.length := List.length_pos_iff.mpr hb.ne
    have := Nat.mul_pos h1 h2
    simp at z
    omega
  · obtain ⟨x, hx, y, hy, rfl⟩ := prodL_mem (onceL_sub r m)
    refine ⟨by simp [(ha.ok x hx).1], fun u hu => (List.mem_append.mp hu).elim ((ha.ok x hx).2 u) ((hb.ok y hy).2 u)⟩
def powM (ra : List RowL) : Nat → Option (List RowL)
  | 0 => some ra
  | i + 1 => (powM ra i).bind fun w => if bigL (onceL (prodL w ra)) = true then none else some (onceL (prodL w ra))
theorem powM_none {ra : List RowL} {i j : Nat} (h : powM ra i = none) (le : i ≤ j) : powM ra j = none := by
  induction le with
  | refl => exact h
  | step _ ih =>
    unfold powM
    rw [ih]
    rfl
theorem Out.same {KC BK : Addr} {H H' : Hp} {Q : VK} {E : XK} {rows : List RowL} (o : Out KC BK H Q E rows) (s : Same H H') : Out KC BK H' Q E rows := ⟨fun b H2 s2 => o.1 b H2 (s.trans s2), fun b k H2 s2 => o.2 b k H2 (s.trans s2)⟩
section
variable {P : Program} {w : World} {K : PySem.W.Frag} {mg : Str → Option Value} {base : Heap} {NC KC BK C : Addr}
def spAlts (KC : Addr) : Sp := fun vs H Q _ => ∃ (k : Addr) (rows : List RowL), vs = [.ref k] ∧ KindL KC H k rows ∧ ∀ (t : Addr) (rs : Rws), H t = some (.tup (rowsV rs)) → rs.map (·.1) = rows → RowsAt H rs → Q (.ref t) H
theorem ok_alts {f : Addr} {fd : FuncData} (F : FnP K "alternatives" "Kind.alternatives" s_Kindalternatives f fd) (T : KindC K KC) : FnOk P w K mg base CX0 1 f fd ["self"] (spAlts KC) := by
  refine F.ok sc_Kindalternatives (fun vs H Q E h => ?_) (fun cdv A outer s H vs Q E hr h => ?_)
  · obtain ⟨k, rows, rfl, _⟩ := h
    rfl
  · obtain ⟨k, rows, rfl, ⟨dx, t, n, rs, h1, h2, h3, h4⟩, q⟩ := h
    exact ⟨_, PSs.nox (pss_one (ps_ret (pe_fld (pv 0) rfl))), _, rfl, k, KC, dx, _, _, rfl, h1, T.cl, T.n1, lk_hit, q t rs h2 h3 h4⟩
def spTwo (KC BK : Addr) (f : List RowL → List RowL → List RowL) : Sp := fun vs H Q E => ∃ (a b : Addr) (ra rb : List RowL), vs = [.ref a, .ref b] ∧ KindL KC H a ra ∧ KindL KC H b rb ∧ Fine ra ∧ Fine rb ∧ Out KC BK H Q E (f ra rb)
set_option maxHeartbeats 20000000 in
theorem ok_add {f : Addr} {fd : FuncData} (F : FnP K "__add__" "Kind.__add__" s_Kind_add_ f fd) (T : KindC K KC) (M : CanKind P w K mg base NC KC BK) : FnOk P w K mg base (L2N.CX P w) 8 f fd ["self", "other"] (spTwo KC BK prodL) := by
  obtain ⟨fM, fdM, MM, gM, bM, GM⟩ := M
  have nd := sc_Kind_add_.nd
  refine F.ok sc_Kind_add_ (fun vs H Q E h => ?_) (fun cdv A outer s H vs Q E hr h => ?_)
  · obtain ⟨a, b, ra, rb, rfl, _⟩ := h
    rfl
  · obtain ⟨a, b, ra, rb, rfl, ka, kb, fa, fb, out⟩ := h
    have tk := L2N.takes_of (X := cxOf (L2N.CX P w) P w K mg base ["self", "other", "first", "second"] "Kind.__add__" (defScope s_Kind_add_) f cdv A outer s H E) (E := E) rfl rfl rfl rfl
    refine ⟨_, pss_one (ps_ret (pe_make MM GM hr (by rfl) gM bM .nil (L2N.passes_call tk (fun _ _ _ _ h => h)) (pa_cons (pe_lc2 (own := [("first", 2), ("second", 3)]) (vs1 := [3]) (g := gName 2) (tt := tYes) (wi1 := iTup K (tFld K (tVar 1) "rows")) (g1 := gName 3) (tt1 := tYes) rfl nd (pi_tup (pe_fld (pv 0) rfl))
      (blkOk_by (N := ["self", "other", "first", "second"]) (sc := defScope s_Kind_add_) (by decide +kernel)) (by decide) (fun _ _ _ _ _ => pg_name (i := 2) nd rfl (Or.inl rfl)) (fun _ _ _ _ _ => pts_nil) (fun _ _ _ _ _ => pi_tup (pe_fld (pv 1) rfl)) (fun _ _ _ _ _ => pg_name (i := 3) nd rfl (Or.inl rfl)) (fun _ _ _ _ _ => pts_nil)
      (fun _ _ _ _ _ => pe_op (r := rCatT K) op_catT (pv 2) (pv 3))) pa_nil))), ?_⟩
    have la := fa.len
    have lb := fb.len
    obtain ⟨dxa, ta, na, rsa, a1, a2, rfl, a4⟩ := ka
    obtain ⟨dxb, tb, nb, rsb, b1, b2, rfl, b4⟩ := kb
    rw [List.length_map] at la lb
    have lenA : (rowsV rsa).length = rsa.length := List.length_map _
    have lenB : (rowsV rsb).length = rsb.length := List.length_map _
    refine ⟨_, rfl, a, KC, dxa, _, _, rfl, a1, T.cl, T.n1, lk_hit, ta, rfl, ⟨_, SqT.of a2⟩, fun D hD => ?_⟩
    have tupsD : ∀ {H3 : Hp} {o u : HO}, H3 D = some (.lst (rowsV [])) ∨ (∃ xs, H3 D = some (.lst xs)) → ∀ c xs, H3 c = some (.tup xs) → upd H3 D u c = some (.tup xs) := fun {H3 o u} hd c xs z => by
      by_cases e : c = D
      · rcases hd with hd | ⟨ys, hd⟩ <;> rw [e, hd] at z <;> cases z
      · rw [upd_ne e]
        exact z
    refine out_it (n := rsa.length) (by rw [← lenA]; exact walk_tup) (fun i H' => ∃ acc : Rws, H' D = some (.lst (rowsV acc)) ∧ acc.map (·.1) = prodL ((rsa.map (·.1)).take i) (rsb.map (·.1)) ∧ RowsAt H' acc ∧ Same H H') ⟨[], upd_same, rfl, (fun x hx => by cases hx), same_new hD⟩ (fun i H' _ h => by
      obtain ⟨_, _, _, _, sm⟩ := h
      exact SqT.of (sm _ _ a2)) ?_ ?_
    · rintro i x _ H2 hi ⟨acc, e, em, rat, sm⟩ ⟨rfl, hx⟩
      have ex : x = .ref rsa[i].2 := by
        unfold rowsV at hx
        rw [List.getElem?_map, List.getElem?_eq_getElem hi] at hx
        exact (Option.some.inj hx).symm
      subst ex
      refine ⟨rfl, yes_keep ?_⟩
      refine ⟨_, rfl, b, KC, dxb, _, _, rfl, sm _ _ b1, T.cl, T.n1, lk_hit, tb, rfl, ⟨_, SqT.of (sm _ _ b2)⟩, ?_⟩
      refine in_it (n := rsb.length) (by rw [← lenB]; exact walk_tup) (fun j H' => ∃ acc : Rws, H' D = some (.lst (rowsV acc)) ∧ acc.map (·.1) = prodL ((rsa.map (·.1)).take i) (rsb.map (·.1)) ++ ((rsb.map (·.1)).take j).map (fun y => rsa[i].1 ++ y) ∧ RowsAt H' acc ∧ Same H H') ⟨acc, e, by rw [List.take_zero, List.map_nil, List.append_nil]; exact em, rat, sm⟩ (fun j H' _ h => by
        obtain ⟨_, _, _, _, sm⟩ := h
        exact SqT.of (sm _ _ b2)) ?_ ?_
      · rintro j y _ H3 hj ⟨acc, e, em, rat, sm⟩ ⟨rfl, hy⟩
        have ey : y = .ref rsb[j].2 := by
          unfold rowsV at hy
          rw [List.getElem?_map, List.getElem?_eq_getElem hj] at hy
          exact (Option.some.inj hy).symm
        subst ey
        have mi : rsa[i].1 ∈ rsa.map (·.1) := List.mem_map.mpr ⟨_, List.getElem_mem hi, rfl⟩
        have mj : rsb[j].1 ∈ rsb.map (·.1) := List.mem_map.mpr ⟨_, List.getElem_mem hj, rfl⟩
        obtain ⟨bs1, x1, x2, x3⟩ := row_at ((a4.same sm) _ (List.getElem_mem hi))
        obtain ⟨bs2, y1, y2, y3⟩ := row_at ((b4.same sm) _ (List.getElem_mem hj))
        have n1 : bs1.length = rsa[i].1.length := by rw [← x1, List.length_map]
        have n2 : bs2.length = rsb[j].1.length := by rw [← y1, List.length_map]
        have v1 : (runsV bs1).length = bs1.length := List.length_map _
        have v2 : (runsV bs2).length = bs2.length := List.length_map _
        have w1 := fa.row mi
        have w2 := fb.row mj
        have p1 : 0 < rsa[i].1.length := List.length_pos_iff.mpr (fa.ok _ mi).1
        have p2 : 0 < rsb[j].1.length := List.length_pos_iff.mpr (fb.ok _ mj).1
        refine ⟨rfl, yes_keep ?_⟩
        refine ⟨_, rfl, _, rfl, _, _, runsV bs1, runsV bs2, rfl, rfl, SqT.of x2, SqT.of y2, (fun z => by rw [z] at v1; simp at v1; omega), line_small (by omega), (fun z => by rw [z] at v2; simp at v2; omega), fun _ p hp => ?_⟩
        have k1 := same_new (o := .tup (runsV bs1 ++ runsV bs2)) hp
        have eD := k1 _ _ e
        have rv : runsV bs1 ++ runsV bs2 = runsV (bs1 ++ bs2) := by
          unfold runsV
          rw [List.map_append]
        have nk : NkV (upd H3 p (.tup (runsV bs1 ++ runsV bs2))) (rowK (rsa[i].1 ++ rsb[j].1)) (.ref p) := by
          have z := row_is (H := upd H3 p (.tup (runsV bs1 ++ runsV bs2))) (a := p) (bs := bs1 ++ bs2) (by rw [upd_same, rv]) (fun x hx => (List.mem_append.mp hx).elim (fun h => k1 _ _ (x3 x h)) fun h => k1 _ _ (y3 x h))
          rw [List.map_append, x1, y1] at z
          exact z
        have la2 : acc.length = (i * rsb.length + j) := by
          have z := congrArg List.length em
          simp only [List.length_map, List.length_append, prodL_len, List.length_take] at z
          rw [Nat.min_eq_left (show i ≤ rsa.length by omega), Nat.min_eq_left (show j ≤ rsb.length by omega)] at z
          exact z
        have bound : i * rsb.length ≤ 20 * 20 := Nat.mul_le_mul (by omega) (by omega)
        refine ⟨_, eD, ?_, acc ++ [(rsa[i].1 ++ rsb[j].1, p)], ?_, ?_, ?_, fun c o z => ?_⟩
        · unfold rowsV
          rw [List.length_map]
          exact small1000 (by omega)
        · rw [upd_same]
          unfold rowsV
          rw [List.map_append]
          rfl
        · rw [List.map_append, em, List.take_add_one, List.getElem?_map, List.getElem?_eq_getElem hj, List.map_append, List.append_assoc]
          rfl
        · intro u hu
          have tp : ∀ c xs, (upd H3 p (.tup (runsV bs1 ++ runsV bs2))) c = some (.tup xs) → (upd (upd H3 p (.tup (runsV bs1 ++ runsV bs2))) D (.lst (rowsV acc ++ [.ref p]))) c = some (.tup xs) := tupsD (o := .lst []) (.inr ⟨_, eD⟩)
          rcases List.mem_append.mp hu with hu | hu
          · exact nkT tp _ _ ((rat.same k1) u hu)
          · rw [List.mem_singleton.mp hu]
            exact nkT tp _ _ nk
        · rw [upd_ne (ne_of_none z hD)]
          exact k1 _ _ (sm _ _ z)
      · rintro H3 ⟨acc, e, em, rat, sm⟩
        refine ⟨acc, e, ?_, rat, sm⟩
        rw [em]
        have et : (rsb.map (·.1)).take rsb.length = rsb.map (·.1) := List.take_of_length_le (by rw [List.length_map]; exact Nat.le_refl _)
        rw [et]
        unfold prodL
        rw [List.take_add_one, List.getElem?_map, List.getElem?_eq_getElem hi, List.flatMap_append]
        simp
    · rintro H2 ⟨acc, e, em, rat, sm⟩
      have et : (rsa.map (·.1)).take rsa.length = rsa.map (·.1) := List.take_of_length_le (by rw [List.length_map]; exact Nat.le_refl _)
      rw [et] at em
      have la2 : acc.length = rsa.length * rsb.length := by
        have z := congrArg List.length em
        rw [List.length_map, prodL_len, List.length_map, List.length_map] at z
        exact z
      have bound : rsa.length * rsb.length ≤ 20 * 20 := Nat.mul_le_mul la lb
      refine make_kind (.inl e) rat (by omega) (fun x hx r hr => ?_) (by rw [em]; exact out.same sm)
      have mx : x.1 ∈ prodL (rsa.map (·.1)) (rsb.map (·.1)) := by
        rw [← em]
        exact List.mem_map.mpr ⟨x, hx, rfl⟩
      obtain ⟨u, hu, v, hv, e2⟩ := prodL_mem mx
      rw [e2] at hr
      exact (List.mem_append.mp hr).elim ((fa.ok u hu).2 r) ((fb.ok v hv).2 r)
end
end K04

set_option autoImplicit false
set_option maxErrors 4
namespace K04
open PySem PySem.Spec PyProof.Rows L2 Tl
/-! ### |, *, == of kinds -/
section
variable {P : Program} {w : World} {K : PySem.W.Frag} {mg : Str → Option Value} {base : Heap} {NC KC BK C : Addr}
def orL (a b : List RowL) : List RowL := a ++ b
theorem ok_or {f : Addr} {fd : FuncData} (F : FnP K "__or__" "Kind.__or__" s_Kind_or_ f fd) (N : Nms mg) (T : KindC K KC) (Se : Sees K KC) (gC : mg "Signs" = some (.ref C)) (off : PySem.W.kitOne K (.ref KC) (.ref C) = some false) (M : CanKind P w K mg base NC KC BK) : FnOk P w K mg base (L2N.CX P w) 8 f fd ["self", "other"] (spTwo KC BK orL) := by
  obtain ⟨fM, fdM, MM, gM, bM, GM⟩ := M
  refine F.ok sc_Kind_or_ (fun vs H Q E h => ?_) (fun cdv A outer s H vs Q E hr h => ?_)
  · obtain ⟨a, b, ra, rb, rfl, _⟩ := h
    rfl
  · obtain ⟨a, b, ra, rb, rfl, ka, kb, fa, fb, out⟩ := h
    have tk := L2N.takes_of (X := cxOf (L2N.CX P w) P w K mg base ["self", "other"] "Kind.__or__" (defScope s_Kind_or_) f cdv A outer s H E) (E := E) rfl rfl rfl rfl
    refine ⟨_, pss_cons (ps_if (pt_val (pe_callB call_isi (by rfl) N.isi (by decide +kernel) (pa_cons (pv 1) (pa_cons (pe_glob (v := .ref C) rfl gC rfl) pa_nil)))) (pss_one ps_never) pss_nil) (pss_one (ps_ret (pe_make MM GM hr (by rfl) gM bM .nil (L2N.passes_call tk (fun _ _ _ _ h => h)) (pa_cons (pe_op op_catT (pe_fld (pv 0) rfl) (pe_fld (pv 1) rfl)) pa_nil)))), ?_⟩
    have la := fa.len
    have lb := fb.len
    have na0 := fa.ne
    have nb0 := fb.ne
    obtain ⟨dxa, ta, na, rsa, a1, a2, rfl, a4⟩ := ka
    obtain ⟨dxb, tb, nb, rsb, b1, b2, rfl, b4⟩ := kb
    rw [List.length_map] at la lb
    have lenA : (rowsV rsa).length = rsa.length := List.length_map _
    have lenB : (rowsV rsb).length = rsb.length := List.length_map _
    have neA : rowsV rsa ≠ [] := fun z => by
      rw [z] at lenA
      cases rsa with
      | nil => exact na0 rfl
      | cons x r => cases lenA
    have neB : rowsV rsb ≠ [] := fun z => by
      rw [z] at lenB
      cases rsb with
      | nil => exact nb0 rfl
      | cons x r => cases lenB
    refine ⟨_, rfl, _, _, _, _, false, rfl, .own C, Se.ty T.cl b1, off, ⟨_, rfl, iteF ?_⟩⟩
    refine ⟨_, rfl, a, KC, dxa, _, _, rfl, a1, T.cl, T.n1, lk_hit, _, rfl, b, KC, dxb, _, _, rfl, b1, T.cl, T.n1, lk_hit, ta, tb, _, _, rfl, rfl, SqT.of a2, SqT.of b2, neA, line_small (by omega), (fun z => absurd z neB), fun _ p hp => ?_⟩
    have k1 := same_new (o := .tup (rowsV rsa ++ rowsV rsb)) hp
    have rv : rowsV rsa ++ rowsV rsb = rowsV (rsa ++ rsb) := by
      unfold rowsV
      rw [List.map_append]
    refine make_kind (rs := rsa ++ rsb) (.inr (by rw [upd_same, rv])) (fun x hx => (List.mem_append.mp hx).elim ((a4.same k1) x) ((b4.same k1) x)) (by rw [List.length_append]; omega) (fun x hx r hr => ?_) ?_
    · rcases List.mem_append.mp hx with hx | hx
      · exact (fa.ok _ (List.mem_map.mpr ⟨x, hx, rfl⟩)).2 r hr
      · exact (fb.ok _ (List.mem_map.mpr ⟨x, hx, rfl⟩)).2 r hr
    · rw [List.map_append]
      exact out.same k1
def spMulK (KC BK : Addr) : Sp := fun vs H Q E => ∃ (a : Addr) (t : Nat) (ra : List RowL), vs = [.ref a, .int (t : Nat)] ∧ 1 ≤ t ∧ t ≤ 9 ∧ KindL KC H a ra ∧ Fine ra ∧ (powM ra (t - 1) = none → Raised H E BK) ∧ ∀ r, powM ra (t - 1) = some r → ∀ (k : Addr) (H' : Hp), Same H H' → KindL KC H' k r → Q (.ref k) H'
set_option maxHeartbeats 20000000 in
theorem ok_mulK {f fA : Addr} {fd fdA : FuncData} (F : FnP K "__mul__" "Kind.__mul__" s_Kind_mul_ f fd) (N : Nms mg) (Co : Cons mg) (hc : PySem.W.selfFirst K KC = true) (MA : OpC K KC (PySem.dunder (Operator.Add).info.2) fA) (GA : FnOk P w K mg base (L2N.CX P w) 8 fA fdA ["self", "other"] (spTwo KC BK prodL)) (bA : Binds K fdA ["self", "other"] [])
    (I : Can P w K mg base CX0 "is_integer_within" ["thing", "low", "high"] 2 (spWithin K)) : FnOk P w K mg base (L2N.CX P w) 9 f fd ["self", "other"] (spMulK KC BK) := by
  obtain ⟨fI, fdI, GI, gI, kI, bI⟩ := I
  obtain ⟨tB, gB⟩ := Co.times
  have nd := sc_Kind_mul_.nd
  refine F.ok sc_Kind_mul_ (fun vs H Q E h => ?_) (fun cdv A outer s H vs Q E hr h => ?_)
  · obtain ⟨a, t, ra, rfl, _⟩ := h
    rfl
  · obtain ⟨a, t, ra, rfl, t1, t9, ka, fa, out, q⟩ := h
    have tk := L2N.takes_of (X := cxOf (L2N.CX P w) P w K mg base ["self", "other", "whole", "step"] "Kind.__mul__" (defScope s_Kind_mul_) f cdv A outer s H E) (E := E) rfl rfl rfl rfl
    have r2 := hr.mono (show 2 ≤ 8 by decide)
    refine ⟨_, pss_cons (ps_if (pt_not (pt_val (pe_call GI r2 (by rfl) gI kI bI .nil pass0 (pa_cons (pv 1) (pa_cons pe_int (pa_cons (pe_glob (v := .int 9) (by rfl) gB ⟨_, rfl⟩) pa_nil)))))) (pss_one ps_never) pss_nil)
      (pss_cons (ps_set (i := 2) nd rfl (.inl rfl) (pv 0))
      (pss_cons (ps_for (passes_of rfl) rfl (pi_range1 rfl N.range (pa_cons (pe_op op_sub (pv 1) pe_int) pa_nil)) (pg_name (i := 3) nd rfl (.inl rfl))
        (pss_one (ps_set (i := 2) nd rfl (.inl rfl) (pe_opS (op_binE (op := .Add) hc MA GA hr bA (L2N.passAt tk)) (pv 2) (pv 0)))))
      (pss_one (ps_ret (pv 2))))), ?_⟩
    refine ⟨_, rfl, _, 1, 9, rfl, .inl ⟨_, rfl, _, rfl, ?_⟩⟩
    have inr : decide ((1 : Int) ≤ ((t : Nat) : Int) ∧ ((t : Nat) : Int) ≤ 9) = true := decide_eq_true ⟨by omega, by omega⟩
    rw [inr]
    refine iteF ?_
    refine ⟨_, rfl, ?_⟩
    refine name_go ?_
    dsimp only
    refine ⟨_, rfl, _, _, rfl, rfl, ((t : Nat) : Int) - 1, rfl, by omega, by omega, ?_⟩
    refine for_range (lo := 0) (n := (((t : Nat) : Int) - 1).toNat) (fun i σ H' => ∃ (wk : Addr) (wr : List RowL) (x3 : Option V), σ = [some (.ref a), some (.int (t : Nat)), some (.ref wk), x3] ∧ KindL KC H' wk wr ∧ powM ra i = some wr ∧ Fine wr ∧ Same H H') ⟨a, ra, none, rfl, ka, rfl, fa, Same.refl H⟩ ?_ ?_
    · rintro i σ H1 hi ⟨wk, wr, x3, rfl, kw, pw, fw, sm⟩
      obtain ⟨dxa, ta, na, rsa, a1, a2, a3, a4⟩ := id ka
      obtain ⟨dxw, tw, nw, rsw, w1, w2, w3, w4⟩ := id kw
      refine ⟨_, rfl, _, rfl, wk, dxw, _, a, dxa, _, rfl, rfl, w1, sm _ _ a1, wk, a, wr, ra, rfl, kw, ka.same sm, fw, fa, fun big H2 s2 => ?_, fun small k H2 s2 kk => ?_⟩
      · refine out (powM_none (i := i + 1) ?_ (by omega)) H2 (sm.trans s2)
        unfold powM
        rw [pw]
        show (if bigL (onceL (prodL wr ra)) = true then none else some (onceL (prodL wr ra))) = none
        rw [if_pos big]
      · refine ⟨k, onceL (prodL wr ra), _, rfl, kk, ?_, fine_prod fw fa small, sm.trans s2⟩
        unfold powM
        rw [pw]
        show (if bigL (onceL (prodL wr ra)) = true then none else some (onceL (prodL wr ra))) = _
        rw [if_neg (by rw [small]; decide)]
    · rintro σ H1 ⟨wk, wr, x3, rfl, kw, pw, fw, sm⟩
      have et : (((t : Nat) : Int) - 1).toNat = t - 1 := by omega
      rw [et] at pw
      exact ⟨_, rfl, q wr pw wk H1 sm kw⟩
theorem ok_rmulK {f fM gM : Addr} {fd fdM : FuncData} (F : FnP K "__rmul__" "Kind.__rmul__" s_Kind_rmul_ f fd) (GM : FnOk P w K mg base (L2N.CX P w) 9 fM fdM ["self", "other"] (spMulK KC BK)) (bM : Binds K fdM ["self", "other"] []) (M : MulC K KC fM gM) :
    FnOk P w K mg base (L2N.CX P w) 10 f fd ["self", "other"] (spMulK KC BK) := by
  refine F.ok sc_Kind_rmul_ (fun vs H Q E h => ?_) (fun cdv A outer s H vs Q E hr h => ?_)
  · obtain ⟨a, t, ra, rfl, _⟩ := h
    rfl
  · obtain ⟨a, t, ra, rfl, h⟩ := h
    have tk := L2N.takes_of (X := cxOf (L2N.CX P w) P w K mg base ["self", "other"] "Kind.__rmul__" (defScope s_Kind_rmul_) f cdv A outer s H E) (E := E) rfl rfl rfl rfl
    refine ⟨_, pss_one (ps_ret (pe_opS (op_mulL M GM hr bM (L2N.passAt tk)) (pv 0) (pv 1))), ?_⟩
    obtain ⟨t1, t9, ka, rest⟩ := h
    obtain ⟨dxa, ta, na, rsa, a1, a2, a3, a4⟩ := id ka
    exact ⟨_, rfl, _, rfl, a, dxa, _, "int", rfl, a1, .int _, a, t, ra, rfl, t1, t9, ka, rest⟩
def spEqK (KC : Addr) : Sp := fun vs H Q _ => ∃ (a b : Addr) (ra : List RowL), vs = [.ref a, .ref b] ∧ KindL KC H a ra ∧ (∀ r ∈ ra, TxR r) ∧ ((∃ rb, KindL KC H b rb ∧ (∀ r ∈ rb, TxR r) ∧ Q (.bl (decide (ra = rb))) H) ∨ ∃ xs, H b = some (.lst xs) ∧ Q (.bl false) H)
theorem ok_eqK {f : Addr} {fd : FuncData} (F : FnP K "__eq__" "Kind.__eq__" s_Kind_eq_ f fd) (N : Nms mg) (T : KindC K KC) (Se : Sees K KC) (gK : mg "Kind" = some (.ref KC)) (own : PySem.W.kitOne K (.ref KC) (.ref KC) = some true) (lst : PySem.W.kitOne K (.type "list") (.ref KC) = some false) : FnOk P w K mg base CX0 1 f fd ["self", "other"] (spEqK KC) := by
  refine F.ok sc_Kind_eq_ (fun vs H Q E h => ?_) (fun cdv A outer s H vs Q E hr h => ?_)
  · obtain ⟨a, b, ra, rfl, _⟩ := h
    rfl
  · obtain ⟨a, b, ra, rfl, ka, xa, h⟩ := h
    refine ⟨_, PSs.nox (pss_one (ps_ret (pe_and (pe_callB call_isi (by rfl) N.isi (by decide +kernel) (pa_cons (pv 1) (pa_cons (pe_glob (v := .ref KC) rfl gK rfl) pa_nil))) (pe_one (pe_cmpR (r := rEqD K) (op_eqD hr.units) (pe_fld (pv 0) rfl) (pe_fld (pv 1) rfl) (nomark _)))))), ?_⟩
    rcases h with ⟨rb, kb, xb, q⟩ | ⟨xs, hb, q⟩
    · obtain ⟨dxa, ta, na, rsa, a1, a2, rfl, a4⟩ := ka
      obtain ⟨dxb, tb, nb, rsb, b1, b2, rfl, b4⟩ := kb
      refine ⟨_, rfl, _, _, _, _, true, rfl, .own KC, Se.ty T.cl b1, own, true, rfl, iteT ?_⟩
      refine ⟨_, rfl, a, KC, dxa, _, _, rfl, a1, T.cl, T.n1, lk_hit, _, rfl, b, KC, dxb, _, _, rfl, b1, T.cl, T.n1, lk_hit, rowsD (rsa.map (·.1)), rowsD (rsb.map (·.1)), .tup (SqT.of a2) (rows_dp a4), .tup (SqT.of b2) (rows_dp b4), shaped_of (rowsD_ok xa) (by decide), shaped_of (rowsD_ok xb) (by decide), ?_⟩
      rw [eqv_rows]
      exact q
    · exact ⟨_, rfl, _, _, _, _, false, rfl, .own KC, .base (.lst hb), lst, false, rfl, iteF q⟩
end
end K04

set_option autoImplicit false
set_option maxErrors 4
namespace K04
open PySem PySem.Spec PyProof.Rows L2 Tl
/-! ### an ascending row of signs is told by its members -/
theorem sorted_sg : ∀ (ns : List Nat), sortedS (ns.map sg) = true → ns.Pairwise (· ≤ ·) := by
  have step : ∀ (ns : List Nat) (m : Nat), risingS (sg m) (ns.map sg) = true → (m :: ns).Pairwise (· ≤ ·) := by
    intro ns
    induction ns with
    | nil => intro m _; exact List.pairwise_singleton _ _
    | cons n ns ih =>
      intro m h
      have h2 : (!ltCps (sg n).cps.toList (sg m).cps.toList && risingS (sg n) (ns.map sg)) = true := h
      obtain ⟨h3, h4⟩ := Bool.and_eq_true_iff.mp h2
      have p := ih n h4
      have h5 : m ≤ n := by
        refine Nat.le_of_not_lt fun z => ?_
        have e : ltCps (sg n).cps.toList (sg m).cps.toList = true := by
          show ltCps [n] [m] = true
          simp [ltCps, z]
        rw [e] at h3
        cases h3
      refine List.pairwise_cons.mpr ⟨fun k hk => ?_, p⟩
      rcases List.mem_cons.mp hk with e | e
      · rw [e]
        exact h5
      · exact Nat.le_trans h5 ((List.pairwise_cons.mp p).1 k e)
  intro ns h
  cases ns with
  | nil => exact List.Pairwise.nil
  | cons n ns => exact step ns n h
theorem le_uniq : ∀ (l k : List Nat), l.Pairwise (· < ·) → k.Pairwise (· < ·) → (∀ n, n ∈ l ↔ n ∈ k) → l = k
  | [], [], _, _, _ => rfl
  | [], y :: k, _, _, h => absurd ((h y).2 List.mem_cons_self) (by simp)
  | x :: l, [], _, _, h => absurd ((h x).1 List.mem_cons_self) (by simp)
  | x :: l, y :: k, hl, hk, h => by
    obtain ⟨l1, l2⟩ := List.pairwise_cons.mp hl
    obtain ⟨k1, k2⟩ := List.pairwise_cons.mp hk
    have e : x = y := by
      have a := (h x).1 List.mem_cons_self
      have b := (h y).2 List.mem_cons_self
      rcases List.mem_cons.mp a with e | e
      · exact e
      · rcases List.mem_cons.mp b with f | f
        · exact f.symm
        · have := k1 x e
          have := l1 y f
          omega
    subst e
    have t : l = k := le_uniq l k l2 k2 fun n => by
      constructor
      · intro z
        rcases List.mem_cons.mp ((h n).1 (List.mem_cons_of_mem _ z)) with e | e
        · have := l1 n z
          omega
        · exact e
      · intro z
        rcases List.mem_cons.mp ((h n).2 (List.mem_cons_of_mem _ z)) with e | e
        · have := k1 n z
          omega
        · exact e
    rw [t]
theorem alpha_lt : alpha.Pairwise (· < ·) := by decide +kernel
theorem norm_lt (l : List Nat) : (norm l).Pairwise (· < ·) := List.Pairwise.filter _ alpha_lt
theorem once_eq {l : List Nat} (hl : ∀ n ∈ l, n ∈ alpha) {ys : List Str} (h1 : sortedS ys = true) (h2 : ys.Nodup) (h3 : ∀ z, z ∈ ys ↔ z ∈ l.map sg) : ys = (norm l).map sg := by
  have e : ∃ ns : List Nat, ys = ns.map sg := by
    have : ∀ zs : List Str, (∀ z ∈ zs, z ∈ l.map sg) → ∃ ns : List Nat, zs = ns.map sg := by
      intro zs
      induction zs with
      | nil => intro _; exact ⟨[], rfl⟩
      | cons z zs ih =>
        intro h
        obtain ⟨ns, e⟩ := ih fun y hy => h y (List.mem_cons_of_mem _ hy)
        obtain ⟨n, _, en⟩ := List.mem_map.mp (h z List.mem_cons_self)
        exact ⟨n :: ns, by rw [e, ← en]; rfl⟩
    exact this ys fun z hz => (h3 z).1 hz
  obtain ⟨ns, rfl⟩ := e
  have nd : ns.Nodup := List.Pairwise.of_map sg (fun _ _ hne e => hne (congrArg sg e)) h2
  have hle := sorted_sg ns h1
  have hlt : ns.Pairwise (· < ·) := by
    refine List.Pairwise.imp₂ (fun a b x y => Nat.lt_of_le_of_ne x y) hle nd
  have e : ns = norm l := le_uniq ns (norm l) hlt (norm_lt l) fun n => by
    rw [mem_norm hl]
    constructor
    · intro z
      obtain ⟨m, hm, e⟩ := List.mem_map.mp ((h3 (sg n)).1 (List.mem_map.mpr ⟨n, z, rfl⟩))
      rw [← sg_inj e]
      exact hm
    · intro z
      obtain ⟨m, hm, e⟩ := List.mem_map.mp ((h3 (sg n)).2 (List.mem_map.mpr ⟨n, z, rfl⟩))
      rw [← sg_inj e]
      exact hm
  rw [e]
theorem cut_take (xs : List V) (k : Nat) : cutV xs none (some (k : Int)) = xs.take k := by
  unfold cutV
  rw [HT.sIx_nat, HT.sIx_none, List.drop_zero, Nat.sub_zero]
  by_cases h : k ≤ xs.length
  · rw [Nat.min_eq_left h]
  · rw [Nat.min_eq_right (by omega), List.take_of_length_le (Nat.le_refl _), List.take_of_length_le (by omega)]
theorem cut_drop (xs : List V) (k : Nat) : cutV xs (some (k : Int)) none = xs.drop k := by
  unfold cutV
  rw [HT.sIx_nat, HT.sIx_none]
  by_cases h : k ≤ xs.length
  · rw [Nat.min_eq_left h]
    exact List.take_of_length_le (by rw [List.length_drop]; omega)
  · rw [Nat.min_eq_right (by omega), List.drop_of_length_le (show xs.length ≤ k by omega), List.drop_of_length_le (Nat.le_refl _), List.take_nil]
theorem Kept.of {b c : Addr} {H H' : Hp} (s : Same H H') : Kept b c H H' := fun x o e _ _ => s x o e
theorem Bag.same {b c : Addr} {H H' : Hp} (B : Bag H b c) (s : Same H H') : Bag H' b c := by
  obtain ⟨n, m, k, h1⟩ := B.top
  obtain ⟨ns, h2⟩ := B.cells
  exact ⟨⟨n, m, k, s _ _ h1⟩, ⟨ns, s _ _ h2⟩⟩
theorem Bag.neB {b c p : Addr} {H : Hp} (B : Bag H b c) (h : H p = none) : p ≠ b := fun z => by
  obtain ⟨n, m, k, e⟩ := B.top
  rw [z, e] at h
  cases h
theorem Bag.neC {b c p : Addr} {H : Hp} (B : Bag H b c) (h : H p = none) : p ≠ c := fun z => by
  obtain ⟨ns, e⟩ := B.cells
  rw [z, e] at h
  cases h
/-- new things stay new to what stood -/
theorem Kept.newD {b c D : Addr} {H0 H1 : Hp} {o : HO} (k : Kept b c H0 H1) (hD : H1 D = none) : Kept b c H0 (upd H1 D o) := fun x u e nb nc => by
  rw [upd_ne (ne_of_none (k x u e nb nc) hD)]
  exact k x u e nb nc
theorem kept_ins {b c : Addr} {H H' : Hp} (B : Bag H b c) (k : Kept b c H H') : ∀ a C dx fs, H a = some (.ins C dx fs) → H' a = some (.ins C dx fs) := fun a C dx fs e => by
  obtain ⟨n, m, j, h1⟩ := B.top
  obtain ⟨ns, h2⟩ := B.cells
  exact k a _ e (fun z => by rw [z, h1] at e; cases e) (fun z => by rw [z, h2] at e; cases e)
theorem kept_tup {b c : Addr} {H H' : Hp} (B : Bag H b c) (k : Kept b c H H') : ∀ a xs, H a = some (.tup xs) → H' a = some (.tup xs) := fun a xs e => by
  obtain ⟨n, m, j, h1⟩ := B.top
  obtain ⟨ns, h2⟩ := B.cells
  exact k a _ e (fun z => by rw [z, h1] at e; cases e) (fun z => by rw [z, h2] at e; cases e)
theorem pe_joinK {X : Cx} {K : PySem.W.Frag} {o e : Expr} {to te : TE} {apos pos : Pos} (eK : X.K = K) (ho : PE X o to) (he : PE X e te) (hs : starEach [e] X.env = [(false, eval e X.env)] := by rfl) (hbase : attributeBase o "join" X.env (eval o X.env) = eval o X.env := by rfl) (hline : (apos.endLine == pos.line) = true := by rfl) :
    PE X (.Call (.Attribute o "join" apos) [e] [] pos) (tM1 (rJoin K) to te) := by
  subst eK
  exact pe_join ho he hs hbase hline

theorem alpha_small : ∀ n ∈ alpha, n < 0x110000 := by decide +kernel
theorem tx_ok {l : List Nat} (h : ∀ n ∈ l, n ∈ alpha) : PyData.strOk (tx l) = true := by
  unfold PyData.strOk tx
  simp only [List.all_toArray, List.all_eq_true, decide_eq_true_eq]
  exact fun n hn => alpha_small n (h n hn)
/-- a drawn run -/
structure RunG (r : RunL) : Prop where
  tx : ∃ S, r.1 = tx S ∧ S ≠ [] ∧ norm S = S
  low : r.2.1 ≤ 2
  top : ∀ m, r.2.2 = some m → r.2.1 ≤ m ∧ 1 ≤ m ∧ m ≤ 4
theorem RunG.ok {r : RunL} (h : RunG r) : RunOk r := by
  obtain ⟨S, e, _, c⟩ := h.tx
  refine ⟨?_, fun n z => (h.top n z).1, ?_⟩
  · rw [e]
    show (Tl.tx S).cps.size ≤ 1000
    have z := norm_len S
    rw [c] at z
    simp only [Tl.tx, List.size_toArray]
    omega
  · unfold pcR pcL
    cases hm : r.2.2 with
    | none =>
      show Nat.max r.2.1 1 ≤ 500
      have := h.low
      exact Nat.max_le.mpr ⟨by omega, by decide⟩
    | some m =>
      have := (h.top m hm).2.2
      show m ≤ 500
      omega
theorem RunG.txok {r : RunL} (h : RunG r) : PyData.strOk r.1 = true := by
  obtain ⟨S, e, _, c⟩ := h.tx
  rw [e]
  exact tx_ok (by rw [← c]; exact norm_sub S)
section
variable {P : Program} {w : World} {K : PySem.W.Frag} {mg : Str → Option Value} {base : Heap} {NC KC BK C : Addr}
/-- what the code picks of two signs -/
def pick (ls : List Nat) (code i : Nat) : List Nat := ((List.range i).filter fun k => decide (code / 2 ^ k % 2 = 1)).map fun k => ls.getD k 0
def spSigns2 : Sp := fun vs H Q _ => ∃ (b c p : Addr) (ls : List Nat), vs = [.ref b, .ref p] ∧ Bag H b c ∧ H p = some (.lst (lettersV ls)) ∧ p ≠ b ∧ p ≠ c ∧ ls.length = 2 ∧ ls.Nodup ∧ (∀ n ∈ ls, n ∈ alpha) ∧ ∀ S H', Bag H' b c → Kept b c H H' → S ≠ [] → norm S = S → Q (.str (tx S)) H'
theorem pick_sub {ls : List Nat} {code : Nat} (hl : ls.length = 2) : ∀ n ∈ pick ls code 2, n ∈ ls := by
  intro n hn
  unfold pick at hn
  obtain ⟨k, hk, rfl⟩ := List.mem_map.mp hn
  have hk2 := List.mem_range.mp (List.mem_filter.mp hk).1
  rw [List.getD_eq_getElem?_getD, List.getElem?_eq_getElem (by omega)]
  exact List.getElem_mem _
theorem pick_nd {ls : List Nat} {code : Nat} (hl : ls.length = 2) (nd : ls.Nodup) : (pick ls code 2).Nodup := by
  match ls, hl with
  | [x, y], _ =>
    have hxy : x ≠ y := fun e => by
      subst e
      simp at nd
    unfold pick
    show (((([0, 1] : List Nat).filter fun k => decide (code / 2 ^ k % 2 = 1)).map fun k => [x, y].getD k 0)).Nodup
    generalize (fun k => decide (code / 2 ^ k % 2 = 1)) = p
    cases h0 : p 0 <;> cases h1 : p 1 <;> simp [List.filter, h0, h1, hxy]
theorem pick_ne {ls : List Nat} {code : Nat} (h1 : 1 ≤ code) (h3 : code ≤ 3) : pick ls code 2 ≠ [] := by
  have cs : code = 1 ∨ code = 2 ∨ code = 3 := by omega
  rcases cs with rfl | rfl | rfl <;> simp [pick, List.range, List.range.loop]
set_option maxHeartbeats 20000000 in
theorem ok_signs2 {f : Addr} {fd : FuncData} (F : FnP K "_law_signs" "_law_signs" s_l_signs f fd) (N : Nms mg) (D : Can P w K mg base CX0 "_law_draw" ["_law_bag_here", "_law_limit"] 1 spDraw) : FnOk P w K mg base CX0 2 f fd ["_law_bag_here", "_law_letters_here"] spSigns2 := by
  obtain ⟨fD, fdD, GD, gD, kD, bD⟩ := D
  have nd := sc_l_signs.nd
  refine F.ok sc_l_signs (fun vs H Q E h => ?_) (fun cdv A outer s H vs Q E hr h => ?_)
  · obtain ⟨b, c, p, ls, rfl, _⟩ := h
    rfl
  · obtain ⟨b, c, p, ls, rfl, B, hp, npb, npc, len, ndl, sub, q⟩ := h
    refine ⟨_, PSs.nox (pss_cons (ps_set (i := 2) nd rfl (by first | exact .inl rfl | exact .inr rfl) (pe_op op_add pe_int (pe_call GD hr (by rfl) gD kD bD .nil pass0 (pa_cons (pv 0) (pa_cons (pe_ix (r := rIxL K) ix_list (pe_lst (pa_cons pe_int (pa_cons pe_int (pa_cons pe_int (pa_cons pe_int pa_nil))))) (pe_op op_sub (pe_callB call_len_seq (by rfl) N.len PySem.boot_len (pa_cons (pv 1) pa_nil)) pe_int) (fun _ _ => rfl)) pa_nil)))))
      (pss_one (ps_ret (pe_joinK (K := K) rfl pe_str (pe_callB (r := rSortedS K) cr_sortedS (by rfl) N.sorted (by decide +kernel) (pa_cons (pe_lc (own := [("_law_k", 3)]) (g := gName 3) rfl nd (pi_range1 rfl N.range (pa_cons (pe_callB call_len_seq (by rfl) N.len PySem.boot_len (pa_cons (pv 1) pa_nil)) pa_nil))
          (blkOk_by (N := ["_law_bag_here", "_law_letters_here", "_law_code", "_law_k"]) (sc := defScope s_l_signs) (by decide +kernel)) (fun _ _ _ _ _ => pg_name (i := 3) nd rfl (Or.inl rfl))
          (fun _ _ _ _ _ => pts_one (pt_cmpR op_eq (pe_op op_mod (pe_callTy call_int1 (by rfl) N.int (by decide +kernel) (pa_cons (pe_op op_fdiv (pv 2) (pe_ix (r := rIxL K) ix_list (pe_lst (pa_cons pe_int (pa_cons pe_int (pa_cons pe_int (pa_cons pe_int pa_nil))))) (pv 3) (fun _ _ => rfl))) pa_nil)) pe_int) pe_int (nomark _)))
          (fun _ _ _ _ _ => pe_ix (r := rIxL K) ix_list (pv 1) (pv 3) (fun _ _ => rfl))) pa_nil)))))), ?_⟩
    have ll : (lettersV ls).length = 2 := by
      unfold lettersV
      rw [List.length_map, len]
    refine ⟨_, rfl, line_small (by show 4 ≤ 16777216; decide), fun l1 n1 => ?_⟩
    have k1 := same_new (o := .lst [.int 1, .int 3, .int 7, .int 15]) n1
    refine ⟨_, rfl, p, _, rfl, .inl (SqL.of (k1 _ _ hp)), ?_⟩
    rw [ll]
    refine ⟨_, _, rfl, rfl, l1, _, 1, .int 3, rfl, rfl, SqL.of upd_same, rfl, ?_⟩
    have B1 := B.same k1
    refine ⟨b, c, 3, rfl, B1, by decide, by decide, fun d H2 d0 d3 B2 K2 => ⟨_, _, rfl, rfl, ?_⟩⟩
    obtain ⟨d, rfl⟩ := Int.eq_ofNat_of_zero_le d0
    refine name_go ?_
    dsimp only
    have K02 : Kept b c H H2 := (Kept.of k1).trans K2
    have hp2 := K02 _ _ hp npb npc
    generalize hcode : 1 + d = code
    have ec : (1 : Int) + ((d : Nat) : Int) = ((code : Nat) : Int) := by omega
    rw [ec]
    refine ⟨⟨_, rfl⟩, _, rfl, p, _, rfl, .inl (SqL.of hp2), ?_⟩
    rw [ll]
    refine ⟨2, rfl, by decide, by decide, fun D hD => ?_⟩
    refine lc_range (lo := 0) (n := 2) (fun i H' => H' D = some (.lst (lettersV (pick ls code i))) ∧ Same H2 H') ⟨upd_same, same_new hD⟩ ?_ ?_
    · rintro i H3 hi ⟨e, sm⟩
      have ei : (0 : Int) + (i : Int) = ((i : Nat) : Int) := Int.zero_add _
      rw [ei]
      refine ⟨rfl, ?_⟩
      have fit : ∃ v : Nat, atI [V.int 1, V.int 2, V.int 4, V.int 8] ((i : Nat) : Int) = some (.int ((2 ^ i : Nat) : Int)) ∧ 0 < 2 ^ i ∧ 2 ^ i ≤ 8 := by
        have cs : i = 0 ∨ i = 1 := by omega
        rcases cs with rfl | rfl
        · exact ⟨0, rfl, by decide, by decide⟩
        · exact ⟨0, rfl, by decide, by decide⟩
      obtain ⟨_, fit, f0, f8⟩ := fit
      refine ⟨_, rfl, line_small (by show 4 ≤ 16777216; decide), fun l2 n2 => ?_⟩
      have k2 := same_new (o := .lst [.int 1, .int 2, .int 4, .int 8]) n2
      refine ⟨_, rfl, l2, _, _, _, rfl, rfl, SqL.of upd_same, fit, _, _, rfl, rfl, ⟨by omega, by omega⟩, .inl ⟨_, rfl, ?_⟩⟩
      refine ⟨_, _, rfl, rfl, (by show (0 : Int) < 2; decide), rfl, ?_⟩
      have eD := k2 _ _ e
      have get : (lettersV ls)[i]? = some (.str (sg (ls.getD i 0))) := by
        unfold lettersV
        rw [List.getElem?_map, List.getElem?_eq_getElem (by omega), List.getD_eq_getElem?_getD, List.getElem?_eq_getElem (by omega)]
        rfl
      have nx : pick ls code (i + 1) = pick ls code i ++ if code / 2 ^ i % 2 = 1 then [ls.getD i 0] else [] := by
        unfold pick
        rw [List.range_succ, List.filter_append, List.map_append]
        congr 1
        by_cases z : code / 2 ^ i % 2 = 1 <;> simp [z]
      have vd : decide (V.int ((code : Int) / ((2 ^ i : Nat) : Int) % 2) = V.int 1) = decide (code / 2 ^ i % 2 = 1) := by
        rw [decide_eq_decide]
        constructor
        · intro h
          have h := V.int.inj h
          omega
        · intro h
          congr 1
          omega
      refine ⟨_, rfl, ?_⟩
      have k23 := sm.trans k2
      by_cases z : code / 2 ^ i % 2 = 1
      · rw [vd, decide_eq_true z]
        refine iteT ?_
        refine ⟨_, rfl, _, rfl, p, _, _, _, rfl, rfl, SqL.of (k2 _ _ (sm _ _ hp2)), atI_nat get, _, eD, ?_, ?_, fun b o zz => ?_⟩
        · unfold lettersV pick
          rw [List.length_map, List.length_map]
          exact small1000 (by
            have z := List.length_filter_le (fun k => decide (code / 2 ^ k % 2 = 1)) (List.range i)
            rw [List.length_range] at z
            omega)
        · rw [upd_same, nx, if_pos z]
          unfold lettersV
          rw [List.map_append]
          rfl
        · rw [upd_ne (ne_of_none zz hD)]
          exact k23 _ _ zz
      · rw [vd, decide_eq_false z]
        refine iteF ⟨?_, k23⟩
        rw [nx, if_neg z, List.append_nil]
        exact eD
    · rintro H3 ⟨e, sm⟩
      generalize hpk : pick ls code 2 = pk at e
      have psub : ∀ n ∈ pk, n ∈ ls := by rw [← hpk]; exact pick_sub len
      have pnd : pk.Nodup := by rw [← hpk]; exact pick_nd len ndl
      have pne : pk ≠ [] := by rw [← hpk]; exact pick_ne (by omega) (by omega)
      have palpha : ∀ n ∈ pk, n ∈ alpha := fun n hn => sub n (psub n hn)
      have plen : pk.length ≤ 2 := by
        rw [← hpk]
        unfold pick
        rw [List.length_map]
        have z := List.length_filter_le (fun k => decide (code / 2 ^ k % 2 = 1)) (List.range 2)
        rw [List.length_range] at z
        exact z
      refine ⟨D, pk.map sg, rfl, SqL.of (by rw [← strs_sg]; exact e), (by rw [List.length_map]; omega), fun ys g3 perm srt ng3 => ?_⟩
      have ey : ys = (norm pk).map sg := by
        refine once_eq palpha srt (perm.nodup_iff.mpr ?_) fun z => perm.mem_iff
        exact List.Pairwise.map sg (fun x y n e => n (sg_inj e)) pnd
      subst ey
      have k3 := same_new (o := .lst (((norm pk).map sg).map V.str)) ng3
      refine ⟨tx [], g3, (norm pk).map sg, rfl, rfl, .inl (SqL.of upd_same), ?_, ?_⟩
      · rw [sum_sg, len_tx, List.length_map]
        have := norm_len pk
        show (norm pk).length + (norm pk).length * 0 ≤ 16777216
        omega
      rw [join_sg]
      refine q (norm pk) _ ((B2.same sm).same k3) (K02.trans (Kept.of (sm.trans k3))) (fun z => ?_) (norm_norm pk)
      cases hpk2 : pk with
      | nil => exact pne hpk2
      | cons x r =>
        have m : x ∈ norm pk := (mem_norm palpha x).mpr (by rw [hpk2]; exact List.mem_cons_self)
        rw [z] at m
        cases m
end
end K04

set_option autoImplicit false
set_option maxErrors 4
namespace K04
open PySem PySem.Spec PyProof.Rows L2 Tl
/-! ### drawn runs, drawn alternatives -/
section
variable {P : Program} {w : World} {K : PySem.W.Frag} {mg : Str → Option Value} {base : Heap} {NC KC BK C : Addr}
/-- two drawn letters -/
structure Two (b c p : Addr) (ls : List Nat) (H : Hp) : Prop where
  bag : Bag H b c
  row : H p = some (.lst (lettersV ls))
  pb : p ≠ b
  pc : p ≠ c
  len : ls.length = 2
  nd : ls.Nodup
  sub : ∀ n ∈ ls, n ∈ alpha
theorem Two.kept {b c p : Addr} {ls : List Nat} {H H' : Hp} (h : Two b c p ls H) (B : Bag H' b c) (k : Kept b c H H') : Two b c p ls H' := ⟨B, k _ _ h.row h.pb h.pc, h.pb, h.pc, h.len, h.nd, h.sub⟩
theorem Two.same {b c p : Addr} {ls : List Nat} {H H' : Hp} (h : Two b c p ls H) (s : Same H H') : Two b c p ls H' := h.kept (h.bag.same s) (Kept.of s)
abbrev l5 : List V := [.int 1, .int 0, .int 1, .int 2, .int 1]
def spRunD : Sp := fun vs H Q _ => ∃ (b c p : Addr) (ls : List Nat), vs = [.ref b, .ref p] ∧ Two b c p ls H ∧ ∀ t r H', Bag H' b c → Kept b c H H' → H t = none → RunAt H' t r → RunG r → Q (.ref t) H'
theorem ok_runD {f : Addr} {fd : FuncData} (F : FnP K "_law_run" "_law_run" s_l_run f fd) (N : Nms mg) (S : Can P w K mg base CX0 "_law_signs" ["_law_bag_here", "_law_letters_here"] 2 spSigns2) (D : Can P w K mg base CX0 "_law_draw" ["_law_bag_here", "_law_limit"] 1 spDraw) : FnOk P w K mg base CX0 3 f fd ["_law_bag_here", "_law_letters_here"] spRunD := by
  obtain ⟨fS, fdS, GS, gS, kS, bS⟩ := S
  obtain ⟨fD, fdD, GD, gD, kD, bD⟩ := D
  have nd := sc_l_run.nd
  refine F.ok sc_l_run (fun vs H Q E h => ?_) (fun cdv A outer s H vs Q E hr h => ?_)
  · obtain ⟨b, c, p, ls, rfl, _⟩ := h
    rfl
  · obtain ⟨b, c, p, ls, rfl, tw, q⟩ := h
    have r1 := hr.mono (show 1 ≤ 2 by decide)
    refine ⟨_, PSs.nox (pss_cons (ps_set (i := 2) nd rfl (.inl rfl) (pe_call GS hr (by rfl) gS kS bS .nil pass0 (pa_cons (pv 0) (pa_cons (pv 1) pa_nil))))
      (pss_cons (ps_set (i := 3) nd rfl (.inl rfl) (pe_ix (r := rIxL K) ix_list (pe_lst (pa_cons pe_int (pa_cons pe_int (pa_cons pe_int (pa_cons pe_int (pa_cons pe_int pa_nil)))))) (pe_call GD r1 (by rfl) gD kD bD .nil pass0 (pa_cons (pv 0) (pa_cons pe_int pa_nil))) (fun _ _ => rfl)))
      (pss_cons (ps_set (i := 4) nd rfl (.inl rfl) (pe_call GD r1 (by rfl) gD kD bD .nil pass0 (pa_cons (pv 0) (pa_cons pe_int pa_nil))))
      (pss_cons (ps_if (pt_cmpR op_eq (pv 4) pe_int (nomark _)) (pss_one (ps_ret (pe_tup (pa_cons (pv 2) (pa_cons (pv 3) (pa_cons pe_non pa_nil)))))) pss_nil)
      (pss_one (ps_ret (pe_tup (pa_cons (pv 2) (pa_cons (pv 3) (pa_cons (pe_callB (call_max2 rfl) (by rfl) N.max (by decide +kernel) (pa_cons pe_int (pa_cons (pe_op op_add (pv 3) (pv 4)) pa_nil))) pa_nil)))))))))), ?_⟩
    refine ⟨_, rfl, _, rfl, b, c, p, ls, rfl, tw.bag, tw.row, tw.pb, tw.pc, tw.len, tw.nd, tw.sub, fun S H1 B1 K1 neS nS => ?_⟩
    refine ⟨line_small (by show 5 ≤ 16777216; decide), fun l1 n1 => ?_⟩
    have k1 := same_new (o := .lst l5) n1
    have nb1 := B1.neB n1
    have nc1 := B1.neC n1
    refine ⟨_, rfl, b, c, 5, rfl, B1.same k1, by decide, by decide, fun d H2 d0 d5 B2 K2 => ?_⟩
    have K02 := (K1.trans (Kept.of k1)).trans K2
    obtain ⟨n, at_, n2⟩ : ∃ n : Nat, atI l5 d = some (.int (n : Nat)) ∧ n ≤ 2 := by
      have cs : d = 0 ∨ d = 1 ∨ d = 2 ∨ d = 3 ∨ d = 4 := by omega
      rcases cs with rfl | rfl | rfl | rfl | rfl
      · exact ⟨1, rfl, by decide⟩
      · exact ⟨0, rfl, by decide⟩
      · exact ⟨1, rfl, by decide⟩
      · exact ⟨2, rfl, by decide⟩
      · exact ⟨1, rfl, by decide⟩
    refine ⟨l1, _, d, _, rfl, rfl, SqL.of (K2 _ _ upd_same nb1 nc1), at_, ?_⟩
    refine ⟨_, rfl, b, c, 4, rfl, B2, by decide, by decide, fun x H3 x0 x4 B3 K3 => ?_⟩
    have K03 := K02.trans K3
    obtain ⟨x, rfl⟩ := Int.eq_ofNat_of_zero_le x0
    have fr : ∀ {t : Addr}, H3 t = none → H t = none := fun {t} h => by
      cases e : H t with
      | none => rfl
      | some o =>
        exfalso
        by_cases hb : t = b
        · obtain ⟨_, _, _, z⟩ := B3.top
          rw [hb, z] at h
          cases h
        by_cases hc : t = c
        · obtain ⟨_, z⟩ := B3.cells
          rw [hc, z] at h
          cases h
        have z := K03 t o e hb hc
        rw [h] at z
        cases z
    have z3 : (3 : Nat) ≤ sizeLine := line_small (by decide)
    refine ⟨_, rfl, rfl, _, rfl, ?_⟩
    by_cases hx : x = 3
    · subst hx
      refine iteT ?_
      refine ⟨_, rfl, _, rfl, z3, fun t ht => ?_⟩
      have k3 := same_new (o := .tup [.str (tx S), .int (n : Nat), .non]) ht
      exact q t (tx S, n, none) _ (B3.same k3) (K03.trans (Kept.of k3)) (fr ht) upd_same ⟨⟨S, rfl, neS, nS⟩, n2, fun m z => by cases z⟩
    · refine (if_neg (fun z => hx (by have := V.int.inj (of_decide_eq_true z); omega))).mpr ?_
      refine ⟨_, rfl, _, rfl, _, rfl, _, rfl, _, _, rfl, rfl, 1, ((n : Nat) : Int) + ((x : Nat) : Int), rfl, z3, fun t ht => ?_⟩
      have em : (if ((n : Nat) : Int) + ((x : Nat) : Int) > 1 then ((n : Nat) : Int) + ((x : Nat) : Int) else (1 : Int)) = ((max 1 (n + x) : Nat) : Int) := by
        split <;> omega
      rw [em]
      have k3 := same_new (o := .tup [.str (tx S), .int (n : Nat), .int ((max 1 (n + x) : Nat) : Int)]) ht
      refine q t (tx S, n, some (max 1 (n + x))) _ (B3.same k3) (K03.trans (Kept.of k3)) (fr ht) upd_same ⟨⟨S, rfl, neS, nS⟩, n2, fun m z => ?_⟩
      cases z
      show n ≤ max 1 (n + x) ∧ 1 ≤ max 1 (n + x) ∧ max 1 (n + x) ≤ 4
      omega
/-- drawn alternatives -/
structure RowG (r : RowL) : Prop where
  ne : r ≠ []
  few : r.length ≤ 3
  all : ∀ x ∈ r, RunG x
abbrev l3 : List V := [.int 1, .int 2, .int 1]
abbrev l4 : List V := [.int 1, .int 2, .int 1, .int 3]
abbrev rIxTup (K : PySem.W.Frag) := rIxT K
def spRowsD : Sp := fun vs H Q _ => ∃ (b c p : Addr) (ls : List Nat), vs = [.ref b, .ref p] ∧ Two b c p ls H ∧ ∀ R (rs : Rws) H', Bag H' b c → Kept b c H H' → H R = none → R ≠ b → R ≠ c → H' R = some (.lst (rowsV rs)) → RowsAt H' rs → 1 ≤ rs.length → rs.length ≤ 2 → (∀ x ∈ rs, RowG x.1) → Q (.ref R) H'
theorem free_kept {b c t : Addr} {H H' : Hp} (k : Kept b c H H') (h : H' t = none) (nb : t ≠ b) (nc : t ≠ c) : H t = none := by
  cases e : H t with
  | none => rfl
  | some o =>
    have z := k t o e nb nc
    rw [h] at z
    cases z
theorem upd_tups {H : Hp} {R : Addr} {xs : List V} {u : HO} (h : H R = some (.lst xs)) : ∀ c ys, H c = some (.tup ys) → upd H R u c = some (.tup ys) := fun c ys z => by
  by_cases e : c = R
  · rw [e, h] at z
    cases z
  · rw [upd_ne e]
    exact z
set_option maxHeartbeats 20000000 in
theorem ok_rowsD {f : Addr} {fd : FuncData} (F : FnP K "_law_rows" "_law_rows" s_l_rows f fd) (N : Nms mg) (S : Can P w K mg base CX0 "_law_run" ["_law_bag_here", "_law_letters_here"] 3 spRunD) (D : Can P w K mg base CX0 "_law_draw" ["_law_bag_here", "_law_limit"] 1 spDraw) : FnOk P w K mg base CX0 4 f fd ["_law_bag_here", "_law_letters_here"] spRowsD := by
  obtain ⟨fS, fdS, GS, gS, kS, bS⟩ := S
  obtain ⟨fD, fdD, GD, gD, kD, bD⟩ := D
  have nd := sc_l_rows.nd
  refine F.ok sc_l_rows (fun vs H Q E h => ?_) (fun cdv A outer s H vs Q E hr h => ?_)
  · obtain ⟨b, c, p, ls, rfl, _⟩ := h
    rfl
  · obtain ⟨b, c, p, ls, rfl, tw, q⟩ := h
    have r1 := hr.mono (show 1 ≤ 3 by decide)
    refine ⟨_, PSs.nox (pss_cons (ps_set (i := 2) nd rfl (by first | exact .inl rfl | exact .inr rfl) (pe_lst pa_nil))
      (pss_cons (ps_for PassesOwn.never rfl (pi_range1 rfl N.range (pa_cons (pe_ix (r := rIxL K) ix_list (pe_lst (pa_cons pe_int (pa_cons pe_int (pa_cons pe_int pa_nil)))) (pe_call GD r1 (by rfl) gD kD bD .nil pass0 (pa_cons (pv 0) (pa_cons pe_int pa_nil))) (fun _ _ => rfl)) pa_nil)) (pg_name (i := 3) nd rfl (by first | exact .inl rfl | exact .inr rfl))
        (pss_cons (ps_set (i := 4) nd rfl (by first | exact .inl rfl | exact .inr rfl) (pe_lst pa_nil))
        (pss_cons (ps_for PassesOwn.never rfl (pi_range1 rfl N.range (pa_cons (pe_ix (r := rIxL K) ix_list (pe_lst (pa_cons pe_int (pa_cons pe_int (pa_cons pe_int (pa_cons pe_int pa_nil))))) (pe_call GD r1 (by rfl) gD kD bD .nil pass0 (pa_cons (pv 0) (pa_cons pe_int pa_nil))) (fun _ _ => rfl)) pa_nil)) (pg_name (i := 5) nd rfl (by first | exact .inl rfl | exact .inr rfl))
          (pss_one (ps_expr (pe_bm PySem.F.plainAttrs_list PySem.F.slot_list_append PySem.F.type_list_append mt_append (pv 4) (pa_cons (pe_call GS hr (by rfl) gS kS bS .nil pass0 (pa_cons (pv 0) (pa_cons (pv 1) pa_nil))) pa_nil)))))
        (C8.pss_cut (ps_if (pt_cmpR op_eq (pe_callB (cr_max rfl) (by rfl) N.max (by decide +kernel) (pa_cons (pe_lc (own := [("_law_run_here", 6)]) (g := gName 6) (tt := tYes) rfl nd (pi_list (pv 4)) (blkOk_by (N := ["_law_bag_here", "_law_letters_here", "_law_rows_here", "_law_k", "_law_row", "_law_j", "_law_run_here"]) (sc := defScope s_l_rows) (by decide +kernel))
            (fun _ _ _ _ _ => pg_name (i := 6) nd rfl (Or.inl rfl)) (fun _ _ _ _ _ => pts_nil) (fun _ _ _ _ _ => pe_ix (r := rIxTup K) ix_tup (pv 6) pe_int (fun _ _ => rfl))) pa_nil)) pe_int (nomark _))
          (pss_one (ps_asg (pe_tup (pa_cons (pe_ix (r := rIxTup K) ix_tup (pe_ix (r := rIxL K) ix_list (pv 4) pe_int (fun _ _ => rfl)) pe_int (fun _ _ => rfl)) (pa_cons pe_int (pa_cons (pe_ix (r := rIxTup K) ix_tup (pe_ix (r := rIxL K) ix_list (pv 4) pe_int (fun _ _ => rfl)) pe_int (fun _ _ => rfl)) pa_nil)))) (pg_sub (pv 4) pe_int set_list))) pss_nil)
        (pss_one (ps_expr (pe_bm PySem.F.plainAttrs_list PySem.F.slot_list_append PySem.F.type_list_append mt_append (pv 2) (pa_cons (pe_callTy call_tuple_of (by rfl) N.tuple (by decide +kernel) (pa_cons (pv 4) pa_nil)) pa_nil))))))))
      (pss_one (ps_ret (pv 2))))), ?_⟩
    refine ⟨Nat.zero_le _, fun R hR => ?_⟩
    have s1 := same_new (o := .lst []) hR
    have Rb := tw.bag.neB hR
    have Rc := tw.bag.neC hR
    refine ⟨line_small (by show 3 ≤ 16777216; decide), fun l1 n1 => ?_⟩
    have s2 := same_new (o := .lst l3) n1
    have tw2 := (tw.same s1).same s2
    have l1b := (tw.same s1).bag.neB n1
    have l1c := (tw.same s1).bag.neC n1
    refine ⟨_, rfl, b, c, 3, rfl, tw2.bag, by decide, by decide, fun d H2 d0 d3 B2 K2 => ?_⟩
    have tw3 := tw2.kept B2 K2
    have K02 : Kept b c H H2 := ((Kept.of s1).trans (Kept.of s2)).trans K2
    have eR := K2 _ _ (s2 _ _ (upd_same (H := H) (a := R) (o := .lst []))) Rb Rc
    obtain ⟨n, at_, n1', n2'⟩ : ∃ n : Nat, atI l3 d = some (.int (n : Nat)) ∧ 1 ≤ n ∧ n ≤ 2 := by
      have cs : d = 0 ∨ d = 1 ∨ d = 2 := by omega
      rcases cs with rfl | rfl | rfl
      · exact ⟨1, rfl, by decide, by decide⟩
      · exact ⟨2, rfl, by decide, by decide⟩
      · exact ⟨1, rfl, by decide, by decide⟩
    refine ⟨l1, _, d, _, rfl, rfl, SqL.of (K2 _ _ upd_same l1b l1c), at_, n, rfl, by omega, by omega, ?_⟩
    refine for_range (lo := 0) (n := ((n : Nat) : Int).toNat) (fun i σ H' => ∃ (rs : Rws) (x3 x4 x5 x6 : Option V), σ = [some (.ref b), some (.ref p), some (.ref R), x3, x4, x5, x6] ∧ Two b c p ls H' ∧ Kept b c H H' ∧ H' R = some (.lst (rowsV rs)) ∧ RowsAt H' rs ∧ rs.length = i ∧ ∀ x ∈ rs, RowG x.1) ⟨[], none, none, none, none, rfl, tw3, K02, eR, (fun x hx => by cases hx), rfl, by simp⟩ ?_ ?_
    · rintro i σ H3 hi ⟨rs, x3, x4, x5, x6, rfl, tw4, K3, e3, at3, len3, g3⟩
      rw [Int.toNat_natCast] at hi
      refine ⟨Nat.zero_le _, fun W hW => ?_⟩
      have s3 := same_new (o := .lst []) hW
      have Wb := tw4.bag.neB hW
      have Wc := tw4.bag.neC hW
      have WR : W ≠ R := (ne_of_none e3 hW).symm
      refine ⟨line_small (by show 4 ≤ 16777216; decide), fun l2 n2 => ?_⟩
      have s4 := same_new (o := .lst l4) n2
      have tw5 := (tw4.same s3).same s4
      have l2b := (tw4.same s3).bag.neB n2
      have l2c := (tw4.same s3).bag.neC n2
      refine ⟨_, rfl, b, c, 4, rfl, tw5.bag, by decide, by decide, fun x H4 x0 x4' B4 K4 => ?_⟩
      have tw6 := tw5.kept B4 K4
      have K34 : Kept b c H3 H4 := ((Kept.of s3).trans (Kept.of s4)).trans K4
      have eW := K4 _ _ (s4 _ _ (upd_same (H := H3) (a := W) (o := .lst []))) Wb Wc
      obtain ⟨m, atm, m1, m3⟩ : ∃ m : Nat, atI l4 x = some (.int (m : Nat)) ∧ 1 ≤ m ∧ m ≤ 3 := by
        have cs : x = 0 ∨ x = 1 ∨ x = 2 ∨ x = 3 := by omega
        rcases cs with rfl | rfl | rfl | rfl
        · exact ⟨1, rfl, by decide, by decide⟩
        · exact ⟨2, rfl, by decide, by decide⟩
        · exact ⟨1, rfl, by decide, by decide⟩
        · exact ⟨3, rfl, by decide, by decide⟩
      refine ⟨l2, _, x, _, rfl, rfl, SqL.of (K4 _ _ upd_same l2b l2c), atm, m, rfl, by omega, by omega, ?_⟩
      refine for_range (lo := 0) (n := ((m : Nat) : Int).toNat) (fun j σ H' => ∃ (bs : Rns) (y5 y6 : Option V), σ = [some (.ref b), some (.ref p), some (.ref R), some (.int (0 + (i : Int))), some (.ref W), y5, y6] ∧ Two b c p ls H' ∧ Kept b c H3 H' ∧ H' W = some (.lst (runsV bs)) ∧ (∀ x ∈ bs, RunAt H' x.2 x.1) ∧ bs.length = j ∧ ∀ x ∈ bs, RunG x.1) ⟨[], x5, x6, rfl, tw6, K34, eW, (fun x hx => by cases hx), rfl, by simp⟩ ?_ ?_
      · rintro j σ H5 hj ⟨bs, y5, y6, rfl, tw7, K5, e5, at5, len5, g5⟩
        rw [Int.toNat_natCast] at hj
        refine ⟨.ref W, rfl, .inl ⟨rfl, _, SqL.of e5⟩, _, rfl, _, rfl, b, c, p, ls, rfl, tw7, fun t r H6 B6 K6 nt rat rg => ?_⟩
        have e6 := K6 _ _ e5 Wb Wc
        have tW : t ≠ W := (ne_of_none e5 nt).symm
        refine ⟨W, _, _, rfl, rfl, e6, ?_, ?_⟩
        · unfold runsV
          rw [List.length_map]
          exact small1000 (by omega)
        · refine ⟨bs ++ [(r, t)], _, y6, rfl, ?_, fun x o e nb nc => ?_, ?_, ?_, ?_, ?_⟩
          · have tw8 := tw7.kept B6 K6
            have pW : p ≠ W := fun z => by rw [← z] at hW; rw [tw4.row] at hW; cases hW
            exact ⟨by
              obtain ⟨u1, u2, u3, u4⟩ := tw8.bag.top
              obtain ⟨u5, u6⟩ := tw8.bag.cells
              exact ⟨⟨u1, u2, u3, by rw [upd_ne (Ne.symm Wb)]; exact u4⟩, ⟨u5, by rw [upd_ne (Ne.symm Wc)]; exact u6⟩⟩, by rw [upd_ne pW]; exact tw8.row, tw8.pb, tw8.pc, tw8.len, tw8.nd, tw8.sub⟩
          · rw [upd_ne (ne_of_none e hW)]
            exact (K5.trans K6) x o e nb nc
          · rw [upd_same]
            unfold runsV
            rw [List.map_append]
            rfl
          · intro u hu
            have keepT : ∀ {d : Addr} {v : HO}, H6 d = some v → d ≠ W → upd H6 W (.lst (runsV bs ++ [.ref t])) d = some v := fun {d v} z nd => by
              rw [upd_ne nd]
              exact z
            rcases List.mem_append.mp hu with hu | hu
            · have z := kept_tup tw7.bag K6 _ _ (at5 u hu)
              exact keepT z (fun y => by rw [y, e6] at z; cases z)
            · rw [List.mem_singleton.mp hu]
              exact keepT rat tW
          · rw [List.length_append, len5]
            rfl
          · intro u hu
            rcases List.mem_append.mp hu with hu | hu
            · exact g5 u hu
            · rw [List.mem_singleton.mp hu]
              exact rg
      · rintro σ H5 ⟨bs, y5, y6, rfl, tw7, K5, e5, at5, len5, g5⟩
        rw [Int.toNat_natCast] at len5
        refine ⟨fun σ' H' => ∃ (cs : Rns) (y5 y6 : Option V), σ' = [some (.ref b), some (.ref p), some (.ref R), some (.int (0 + (i : Int))), some (.ref W), y5, y6] ∧ Two b c p ls H' ∧ Kept b c H3 H' ∧ H' W = some (.lst (runsV cs)) ∧ (∀ x ∈ cs, RunAt H' x.2 x.1) ∧ cs.length = m ∧ ∀ x ∈ cs, RunG x.1, ?_, ?_⟩
        · have lenV : (runsV bs).length = bs.length := List.length_map _
          refine ⟨_, rfl, W, rfl, ⟨_, SqL.of e5⟩, fun D hD => ?_⟩
          refine lc_it (n := bs.length) (by rw [← lenV]; exact walk_list) (fun j H' => H' D = some (.lst ((bs.take j).map fun x => V.int (x.1.2.1 : Nat))) ∧ Same H5 H') ⟨upd_same, same_new hD⟩ (fun j H' _ h => SqL.of (h.2 _ _ e5)) ?_ ?_
          · rintro j y _ H6 hj ⟨e, sm⟩ ⟨rfl, hy⟩
            have ey : y = .ref bs[j].2 := by
              unfold runsV at hy
              rw [List.getElem?_map, List.getElem?_eq_getElem hj] at hy
              exact (Option.some.inj hy).symm
            subst ey
            have ra : H6 bs[j].2 = some (.tup [.str bs[j].1.1, .int (bs[j].1.2.1 : Nat), mostV bs[j].1.2.2]) := sm _ _ (at5 _ (List.getElem_mem hj))
            refine ⟨rfl, yes_keep ?_⟩
            refine ⟨_, rfl, bs[j].2, _, 1, _, rfl, rfl, SqT.of ra, rfl, _, e, ?_, ?_, fun b o z => ?_⟩
            · rw [List.length_map, List.length_take]
              exact small1000 (by omega)
            · rw [upd_same, List.take_add_one, List.getElem?_eq_getElem hj, List.map_append]
              rfl
            · rw [upd_ne (ne_of_none z hD)]
              exact sm _ _ z
          · rintro H6 ⟨e, sm⟩
            rw [List.take_of_length_le (Nat.le_refl _)] at e
            have el : (bs.map fun x => V.int (x.1.2.1 : Nat)) = (bs.map fun x => ((x.1.2.1 : Nat) : Int)).map V.int := by
              rw [List.map_map]
              rfl
            rw [el] at e
            have tw8 := tw7.same sm
            have K6 : Kept b c H3 H6 := K5.trans (Kept.of sm)
            have e6 := sm _ _ e5
            have at6 : ∀ x ∈ bs, RunAt H6 x.2 x.1 := fun x hx => sm _ _ (at5 x hx)
            refine ⟨D, _, rfl, SqL.of e, (by rw [List.length_map]; omega), fun mx hm hle => ⟨rfl, _, rfl, ite2 (fun e1 => ?_) fun e1 => ⟨bs, _, _, rfl, tw8, K6, e6, at6, len5, g5⟩⟩⟩
            cases bs with
            | nil =>
              simp at len5
              omega
            | cons x0 rest =>
              have ra : H6 x0.2 = some (.tup [.str x0.1.1, .int (x0.1.2.1 : Nat), mostV x0.1.2.2]) := at6 _ List.mem_cons_self
              have a0 : atI (runsV (x0 :: rest)) 0 = some (.ref x0.2) := atI_nat (j := 0) rfl
              refine ⟨_, rfl, W, _, 0, _, rfl, rfl, SqL.of e6, a0, x0.2, _, 0, _, rfl, rfl, SqT.of ra, rfl, ?_⟩
              refine ⟨_, rfl, W, _, 0, _, rfl, rfl, SqL.of e6, a0, x0.2, _, 2, _, rfl, rfl, SqT.of ra, rfl, line_small (by show 3 ≤ 16777216; decide), fun u hu => ?_⟩
              have k7 := same_new (o := .tup [.str x0.1.1, .int (1 : Nat), mostV x0.1.2.2]) hu
              have e7 := k7 _ _ e6
              have uW : u ≠ W := (ne_of_none e6 hu).symm
              have ix0 : ixN (runsV (x0 :: rest)).length 0 = some 0 := by
                unfold ixN runsV
                rw [if_pos (by decide), List.length_map, List.length_cons, if_pos (by omega)]
                rfl
              refine ⟨_, rfl, W, _, 0, 0, rfl, rfl, e7, ix0, ?_⟩
              have keepT : ∀ {d : Addr} {v : HO} {z : HO}, upd H6 u z d = some v → d ≠ W → upd (upd H6 u z) W (.lst ((runsV (x0 :: rest)).set 0 (.ref u))) d = some v := fun {d v z} y nd => by
                rw [upd_ne nd]
                exact y
              refine ⟨((x0.1.1, 1, x0.1.2.2), u) :: rest, _, _, rfl, ?_, fun x o e nb nc => ?_, ?_, ?_, len5, ?_⟩
              · have tw9 := tw8.same k7
                have pW : p ≠ W := fun z => by rw [← z] at hW; rw [tw4.row] at hW; cases hW
                exact ⟨by
                  obtain ⟨u1, u2, u3, u4⟩ := tw9.bag.top
                  obtain ⟨u5, u6⟩ := tw9.bag.cells
                  exact ⟨⟨u1, u2, u3, by rw [upd_ne (Ne.symm Wb)]; exact u4⟩, ⟨u5, by rw [upd_ne (Ne.symm Wc)]; exact u6⟩⟩, by rw [upd_ne pW]; exact tw9.row, tw9.pb, tw9.pc, tw9.len, tw9.nd, tw9.sub⟩
              · rw [upd_ne (ne_of_none e hW)]
                exact k7 _ _ (K6 x o e nb nc)
              · rw [upd_same]
                rfl
              · intro y hy
                rcases List.mem_cons.mp hy with rfl | hy
                · exact keepT upd_same uW
                · have z := k7 _ _ (at6 y (List.mem_cons_of_mem _ hy))
                  exact keepT z (fun w => by rw [w, e7] at z; cases z)
              · intro y hy
                rcases List.mem_cons.mp hy with rfl | hy
                · have g0 := g5 x0 List.mem_cons_self
                  exact ⟨g0.tx, by show 1 ≤ 2; decide, fun m z => ⟨(g0.top m z).2.1, (g0.top m z).2⟩⟩
                · exact g5 y (List.mem_cons_of_mem _ hy)
        · rintro σ' H6 ⟨cs, y5, y6, rfl, tw8, K6, e6, at6, len6, g6⟩
          have e3' := K6 _ _ e3 Rb Rc
          refine ⟨.ref R, rfl, .inl ⟨rfl, _, SqL.of e3'⟩, _, rfl, W, _, rfl, .inl ⟨SqL.of e6, fun t ht => ?_⟩⟩
          have k7 := same_new (o := .tup (runsV cs)) ht
          have eR7 := k7 _ _ e3'
          have tR : t ≠ R := (ne_of_none e3' ht).symm
          refine ⟨R, _, _, rfl, rfl, eR7, ?_, ?_⟩
          · unfold rowsV
            rw [List.length_map]
            exact small1000 (by omega)
          have tw9 := tw8.same k7
          have pR : p ≠ R := fun z => by rw [← z] at hR; rw [tw.row] at hR; cases hR
          have tp := upd_tups (u := .lst (rowsV rs ++ [.ref t])) eR7
          refine ⟨rs ++ [(cs.map (·.1), t)], _, _, _, _, rfl, ?_, fun x o e nb nc => ?_, ?_, ?_, ?_, ?_⟩
          · exact ⟨by
              obtain ⟨u1, u2, u3, u4⟩ := tw9.bag.top
              obtain ⟨u5, u6⟩ := tw9.bag.cells
              exact ⟨⟨u1, u2, u3, by rw [upd_ne (Ne.symm Rb)]; exact u4⟩, ⟨u5, by rw [upd_ne (Ne.symm Rc)]; exact u6⟩⟩, by rw [upd_ne pR]; exact tw9.row, tw9.pb, tw9.pc, tw9.len, tw9.nd, tw9.sub⟩
          · rw [upd_ne (ne_of_none e hR)]
            exact k7 _ _ ((K3.trans K6) x o e nb nc)
          · rw [upd_same]
            unfold rowsV
            rw [List.map_append]
            rfl
          · intro x hx
            rcases List.mem_append.mp hx with hx | hx
            · exact nkT (fun a xs z => tp a xs (k7 _ _ (kept_tup tw4.bag K6 a xs z))) _ _ (at3 x hx)
            · rw [List.mem_singleton.mp hx]
              exact row_is (bs := cs) (tp _ _ upd_same) fun y hy => tp _ _ (k7 _ _ (at6 y hy))
          · rw [List.length_append, len3]
            rfl
          · intro x hx
            rcases List.mem_append.mp hx with hx | hx
            · exact g3 x hx
            · rw [List.mem_singleton.mp hx]
              refine ⟨fun z => ?_, by rw [List.length_map]; omega, fun y hy => ?_⟩
              · have z2 := congrArg List.length z
                rw [List.length_map, len6] at z2
                simp at z2
                omega
              · obtain ⟨v, hv, rfl⟩ := List.mem_map.mp hy
                exact g6 v hv
    · rintro σ H3 ⟨rs, x3, x4, x5, x6, rfl, tw4, K3, e3, at3, len3, g3⟩
      rw [Int.toNat_natCast] at len3
      exact ⟨_, rfl, q R rs H3 tw4.bag K3 hR Rb Rc e3 at3 (by omega) (by omega) g3⟩
end
end K04

set_option autoImplicit false
set_option maxErrors 4
namespace K04
open PySem PySem.Spec PyProof.Rows L2 Tl
/-! ### the kind of drawn alternatives -/
theorem nothingOut {X : Cx} : L2N.Takes X (fun _ _ _ _ => False) := fun _ _ x => by
  obtain ⟨_, _, _, _, _, _, _, _, _, _, _, _, _, _, _, _, w⟩ := x
  exact w.elim
theorem RunG.places {r : RunL} (h : RunG r) : pcR r ≤ 4 := by
  unfold pcR pcL
  cases hm : r.2.2 with
  | none =>
    show Nat.max r.2.1 1 ≤ 4
    have := h.low
    exact Nat.max_le.mpr ⟨by omega, by decide⟩
  | some m => exact (h.top m hm).2.2
theorem sum_le {xs : List Nat} {n : Nat} (h : ∀ x ∈ xs, x ≤ n) : xs.sum ≤ xs.length * n := by
  induction xs with
  | nil => simp
  | cons x r ih =>
    rw [List.sum_cons, List.length_cons, Nat.succ_mul]
    have := h x List.mem_cons_self
    have := ih fun y hy => h y (List.mem_cons_of_mem _ hy)
    omega
theorem RowG.places {r : RowL} (h : RowG r) : (placesR r).sum ≤ 12 := by
  have z := sum_le (xs := placesR r) (n := 4) fun x hx => by
    unfold placesR at hx
    obtain ⟨y, hy, rfl⟩ := List.mem_map.mp hx
    exact (h.all y hy).places
  have l : (placesR r).length = r.length := List.length_map _
  have := h.few
  have := Nat.mul_le_mul_right 4 this
  omega
theorem onceL_len (rows : List RowL) : (onceL rows).length ≤ rows.length := by
  have key : ∀ (xs acc : List RowL), (xs.foldl putL acc).length ≤ acc.length + xs.length := by
    intro xs
    induction xs with
    | nil => exact fun _ => Nat.le_refl _
    | cons x xs ih =>
      intro acc
      rw [List.foldl_cons]
      refine Nat.le_trans (ih _) ?_
      unfold putL
      split
      · rw [List.length_cons]
        omega
      · simp only [List.length_append, List.length_cons, List.length_nil]
        omega
  have z := key rows []
  rw [List.length_nil, Nat.zero_add] at z
  exact z
theorem flat_le {rows : List RowL} (h : ∀ r ∈ rows, RowG r) : (rows.flatMap placesR).sum ≤ rows.length * 12 := by
  induction rows with
  | nil => simp
  | cons x r ih =>
    rw [List.flatMap_cons, List.sum_append, List.length_cons, Nat.succ_mul]
    have := (h x List.mem_cons_self).places
    have := ih fun y hy => h y (List.mem_cons_of_mem _ hy)
    omega
theorem fine_of {rows : List RowL} (ne : rows ≠ []) (l : rows.length ≤ 2) (h : ∀ r ∈ rows, RowG r) : Fine rows := by
  refine ⟨?_, ne, fun r m => ⟨(h r m).ne, fun x hx => ((h r m).all x hx).ok⟩⟩
  unfold bigL
  rw [Bool.or_eq_false_iff, Bool.or_eq_false_iff]
  refine ⟨⟨decide_eq_false (by omega), List.any_eq_false.mpr fun r m => ?_⟩, decide_eq_false ?_⟩
  · have := (h r m).few
    simp
    omega
  · have := flat_le h
    omega
theorem fine_once {rows : List RowL} (ne : rows ≠ []) (l : rows.length ≤ 2) (h : ∀ r ∈ rows, RowG r) : Fine (onceL rows) := fine_of (onceL_ne ne) (Nat.le_trans (onceL_len rows) l) fun r m => h r (onceL_sub r m)
theorem run_read {K : PySem.W.Frag} {C : Addr} {H : Hp} {r : RunL} (g : RunG r) : ∃ (S : List Nat) (a b : Bn), Spl K C H (.str r.1) (some S) ∧ BnAt K H (.int (r.2.1 : Nat)) a ∧ BnAt K H (mostV r.2.2) b ∧ runOk (some S) (boundsOk a b) = some r := by
  obtain ⟨x, l, m⟩ := r
  obtain ⟨S, e, ne, nS⟩ := g.tx
  have low : l ≤ 2 := g.low
  have e : x = tx S := e
  subst e
  have sp : Spl K C H (.str (tx S)) (some S) := by
    have z := Spl.txt (K := K) (C := C) (H := H) (l := S) ⟨by rw [← nS]; exact norm_sub S, by have := norm_len S; rw [nS] at this; omega⟩
    rw [nS] at z
    exact z
  have ok : ∀ o, o = some (l, m) → runOk (some S) o = some (tx S, l, m) := fun o eo => by
    subst eo
    cases S with
    | nil => exact absurd rfl ne
    | cons n S => rfl
  cases m with
  | none =>
    refine ⟨S, .int l, .none, sp, rfl, rfl, ok _ ?_⟩
    rw [bo_n, if_pos ⟨by omega, by omega⟩, Int.toNat_natCast]
  | some m =>
    obtain ⟨t1, t2, t3⟩ := g.top m rfl
    have t1 : l ≤ m := t1
    refine ⟨S, .int l, .int m, sp, rfl, rfl, ok _ ?_⟩
    rw [bo_i, if_pos ⟨by omega, by omega, by omega, by omega, by omega⟩, Int.toNat_natCast, Int.toNat_natCast]
section
variable {P : Program} {w : World} {K : PySem.W.Frag} {mg : Str → Option Value} {base : Heap} {NC KC BK C : Addr}
/-- what the operators of kinds are -/
structure Ops (P : Program) (w : World) (K : PySem.W.Frag) (mg : Str → Option Value) (base : Heap) (NC KC BK C : Addr) : Prop where
  self : PySem.W.selfFirst K KC = true
  kc : KindC K KC
  gK : mg "Kind" = some (.ref KC)
  run : ∃ fR fdR, Stat K KC "run" fR ∧ FnOk P w K mg base (L2N.CX P w) 8 fR fdR ["signs", "least", "most"] (spRun K NC KC BK C) ∧ Binds K fdR ["signs", "least", "most"] []
  add : ∃ f fd, OpC K KC (PySem.dunder (Operator.Add).info.2) f ∧ FnOk P w K mg base (L2N.CX P w) 8 f fd ["self", "other"] (spTwo KC BK prodL) ∧ Binds K fd ["self", "other"] []
  or : ∃ f fd, OpC K KC (PySem.dunder (Operator.BitOr).info.2) f ∧ FnOk P w K mg base (L2N.CX P w) 8 f fd ["self", "other"] (spTwo KC BK orL) ∧ Binds K fd ["self", "other"] []
def spKindD (KC : Addr) : Sp := fun vs H Q _ => ∃ (R : Addr) (rs : Rws), vs = [.ref R] ∧ H R = some (.lst (rowsV rs)) ∧ RowsAt H rs ∧ 1 ≤ rs.length ∧ rs.length ≤ 2 ∧ (∀ x ∈ rs, RowG x.1) ∧ ∀ k H', Same H H' → KindL KC H' k (onceL (rs.map (·.1))) → Q (.ref k) H'
set_option maxHeartbeats 20000000 in
theorem ok_kindD {f : Addr} {fd : FuncData} (F : FnP K "_law_kind" "_law_kind" s_l_kind f fd) (O : Ops P w K mg base NC KC BK C) : FnOk P w K mg base CX0 9 f fd ["_law_rows_here"] (spKindD KC) := by
  obtain ⟨fR, fdR, SR, GR, bR⟩ := O.run
  obtain ⟨fA, fdA, MA, GA, bA⟩ := O.add
  obtain ⟨fO, fdO, MO, GO, bO⟩ := O.or
  have nd := sc_l_kind.nd
  refine F.ok sc_l_kind (fun vs H Q E h => ?_) (fun cdv A outer s H vs Q E hr h => ?_)
  · obtain ⟨R, rs, rfl, _⟩ := h
    rfl
  · obtain ⟨R, rs, rfl, hR, at_, l1, l2, g, q⟩ := h
    refine ⟨_, PSs.nox (pss_cons (ps_set (i := 1) nd rfl (.inl rfl) pe_non)
      (pss_cons (ps_for PassesOwn.never rfl (pi_list (pv 0)) (pg_name (i := 2) nd rfl (.inl rfl))
        (pss_cons (ps_set (i := 3) nd rfl (.inl rfl) pe_non)
        (pss_cons (ps_for PassesOwn.never rfl (pi_tup (pv 2)) (pg_tup rfl (pgs_cons (pg_name (i := 4) nd rfl (.inl rfl)) (pgs_cons (pg_name (i := 5) nd rfl (.inl rfl)) (pgs_cons (pg_name (i := 6) nd rfl (.inl rfl)) pgs_nil))))
          (pss_one (ps_if (pt_cmpR op_isN (pv 3) pe_non (nomark _)) (pss_one (ps_set (i := 3) nd rfl (.inl rfl) (pe_stat SR GR hr (by rfl) O.gK bR .nil (L2N.passAt (nothingOut)) (pa_cons (pv 4) (pa_cons (pv 5) (pa_cons (pv 6) pa_nil))))))
            (pss_one (ps_set (i := 3) nd rfl (.inl rfl) (pe_opS (op_binE (op := .Add) O.self MA GA hr bA (L2N.passAt (nothingOut))) (pv 3) (pe_stat SR GR hr (by rfl) O.gK bR .nil (L2N.passAt (nothingOut)) (pa_cons (pv 4) (pa_cons (pv 5) (pa_cons (pv 6) pa_nil))))))))))
        (pss_one (ps_if (pt_cmpR op_isN (pv 1) pe_non (nomark _)) (pss_one (ps_set (i := 1) nd rfl (.inl rfl) (pv 3))) (pss_one (ps_set (i := 1) nd rfl (.inl rfl) (pe_opS (op_binE (op := .BitOr) O.self MO GO hr bO (L2N.passAt (nothingOut))) (pv 1) (pv 3)))))))))
      (pss_one (ps_ret (pv 1))))), ?_⟩
    refine ⟨_, rfl, R, rfl, ⟨_, SqL.of hR⟩, ?_⟩
    refine for_list (xs := rowsV rs) (fun i σ H' => ∃ (v1 : V) (x2 x3 x4 x5 x6 : Option V), σ = [some (.ref R), some v1, x2, x3, x4, x5, x6] ∧ Same H H' ∧ ((i = 0 ∧ v1 = .non) ∨ (1 ≤ i ∧ ∃ kh, v1 = .ref kh ∧ KindL KC H' kh (onceL ((rs.map (·.1)).take i))))) ⟨.non, none, none, none, none, none, rfl, Same.refl H, .inl ⟨rfl, rfl⟩⟩ (fun i σ H' _ h => by
      obtain ⟨_, _, _, _, _, _, _, sm, _⟩ := h
      exact SqL.of (sm _ _ hR)) ?_ ?_
    · rintro i x σ H1 hx ⟨v1, x2, x3, x4, x5, x6, rfl, sm, hv⟩
      have hi : i < rs.length := by
        have z := List.getElem?_eq_some_iff.mp hx
        obtain ⟨z, _⟩ := z
        unfold rowsV at z
        rw [List.length_map] at z
        exact z
      have ex : x = .ref rs[i].2 := by
        unfold rowsV at hx
        rw [List.getElem?_map, List.getElem?_eq_getElem hi] at hx
        exact (Option.some.inj hx).symm
      subst ex
      have gi := g _ (List.getElem_mem hi)
      obtain ⟨bs, b1, b2, b3⟩ := row_at ((at_.same sm) _ (List.getElem_mem hi))
      have nb : bs.length = rs[i].1.length := by rw [← b1, List.length_map]
      have nv : (runsV bs).length = bs.length := List.length_map _
      refine ⟨_, rfl, rs[i].2, rfl, ⟨_, SqT.of b2⟩, ?_⟩
      refine for_tup (xs := runsV bs) (fun j σ H' => ∃ (v3 : V) (y4 y5 y6 : Option V), σ = [some (.ref R), some v1, some (.ref rs[i].2), some v3, y4, y5, y6] ∧ Same H1 H' ∧ ((j = 0 ∧ v3 = .non) ∨ (1 ≤ j ∧ ∃ ko, v3 = .ref ko ∧ KindL KC H' ko [rs[i].1.take j]))) ⟨.non, x4, x5, x6, rfl, Same.refl H1, .inl ⟨rfl, rfl⟩⟩ (fun j σ H' _ h => by
        obtain ⟨_, _, _, _, _, sm, _⟩ := h
        exact SqT.of (sm _ _ b2)) ?_ ?_
      · rintro j y σ H2 hy ⟨v3, y4, y5, y6, rfl, sm2, hv3⟩
        have hj : j < bs.length := by
          obtain ⟨z, _⟩ := List.getElem?_eq_some_iff.mp hy
          rw [nv] at z
          exact z
        have ey : y = .ref bs[j].2 := by
          unfold runsV at hy
          rw [List.getElem?_map, List.getElem?_eq_getElem hj] at hy
          exact (Option.some.inj hy).symm
        subst ey
        have ra : H2 bs[j].2 = some (.tup [.str bs[j].1.1, .int (bs[j].1.2.1 : Nat), mostV bs[j].1.2.2]) := sm2 _ _ (b3 _ (List.getElem_mem hj))
        have er : rs[i].1[j]? = some bs[j].1 := by
          rw [← b1, List.getElem?_map, List.getElem?_eq_getElem hj]
          rfl
        have gr := gi.all _ (List.mem_of_getElem? er)
        refine ⟨bs[j].2, _, rfl, SqT.of ra, rfl, _, _, rfl, _, _, rfl, _, _, rfl, rfl, ?_⟩
        obtain ⟨S, an, bn, sp, ha, hb, ro⟩ := run_read (K := K) (C := C) (H := H2) gr
        have et : rs[i].1.take (j + 1) = rs[i].1.take j ++ [bs[j].1] := by
          rw [List.take_add_one, er]
          rfl
        refine ⟨_, rfl, rfl, _, rfl, ?_⟩
        rcases hv3 with ⟨rfl, rfl⟩ | ⟨j1, ko, rfl, kl⟩
        · refine iteT ?_
          refine ⟨_, rfl, _, rfl, _, rfl, _, _, _, some S, an, bn, rfl, sp, ha, hb, (fun no => by rw [ro] at no; cases no), fun r er2 => ?_⟩
          rw [ro] at er2
          cases er2
          intro k H3 s3 kl
          refine ⟨.ref k, _, _, _, rfl, sm2.trans s3, .inr ⟨by omega, k, rfl, ?_⟩⟩
          rw [et]
          exact kl
        · refine iteF ?_
          refine ⟨_, rfl, _, rfl, _, rfl, _, rfl, _, _, _, some S, an, bn, rfl, sp, ha, hb, (fun no => by rw [ro] at no; cases no), fun r er2 => ?_⟩
          rw [ro] at er2
          cases er2
          intro k H3 s3 kn
          obtain ⟨dxa, ta, na, rsa, a1, a2, a3, a4⟩ := id kl
          obtain ⟨dxb, tb, nb2, rsb, c1, c2, c3, c4⟩ := id kn
          have gt : RowG (rs[i].1.take j) := ⟨fun z => by
              have z2 := congrArg List.length z
              rw [List.length_take, List.length_nil] at z2
              omega, by have := gi.few; rw [List.length_take]; omega, fun x hx => gi.all x (List.mem_of_mem_take hx)⟩
          have gone : RowG [bs[j].1] := ⟨by simp, by show 1 ≤ 3; decide, fun x hx => by rw [List.mem_singleton.mp hx]; exact gr⟩
          have gnew : RowG (rs[i].1.take j ++ [bs[j].1]) := by
            rw [← et]
            exact ⟨fun z => by
              have z2 := congrArg List.length z
              rw [List.length_take, List.length_nil] at z2
              omega, by have := gi.few; rw [List.length_take]; omega, fun x hx => gi.all x (List.mem_of_mem_take hx)⟩
          have one : ∀ {r : RowL}, RowG r → Fine [r] := fun {r} h => fine_of (by simp) (by show 1 ≤ 2; decide) fun x hx => by rw [List.mem_singleton.mp hx]; exact h
          have ep : prodL [rs[i].1.take j] [[bs[j].1]] = [rs[i].1.take j ++ [bs[j].1]] := rfl
          refine ⟨ko, dxa, _, k, dxb, _, rfl, rfl, s3 _ _ a1, c1, ko, k, _, _, rfl, kl.same s3, kn, one gt, one gone, fun big => ?_, fun _ k2 H4 s4 k4 => ?_⟩
          · have sm3 := (one gnew).big
            rw [ep] at big
            have big : bigL [rs[i].1.take j ++ [bs[j].1]] = true := big
            rw [sm3] at big
            cases big
          · rw [ep] at k4
            refine ⟨.ref k2, _, _, _, rfl, (sm2.trans s3).trans s4, .inr ⟨by omega, k2, rfl, ?_⟩⟩
            rw [et]
            exact k4
      · rintro σ H2 ⟨v3, y4, y5, y6, rfl, sm2, hv3⟩
        rcases hv3 with ⟨e0, _⟩ | ⟨_, ko, rfl, kl⟩
        · exfalso
          rw [nv, nb] at e0
          exact gi.ne (List.length_eq_zero_iff.mp e0)
        have ef : rs[i].1.take (runsV bs).length = rs[i].1 := List.take_of_length_le (by rw [nv, nb]; exact Nat.le_refl _)
        rw [ef] at kl
        have ti : (rs.map (·.1)).take (i + 1) = (rs.map (·.1)).take i ++ [rs[i].1] := by
          rw [List.take_add_one, List.getElem?_map, List.getElem?_eq_getElem hi]
          rfl
        refine ⟨_, rfl, rfl, _, rfl, ?_⟩
        rcases hv with ⟨rfl, rfl⟩ | ⟨i1, kh, rfl, kk⟩
        · refine iteT ⟨_, rfl, ?_⟩
          refine ⟨.ref ko, _, _, _, _, _, rfl, sm.trans sm2, .inr ⟨by omega, ko, rfl, ?_⟩⟩
          rw [ti]
          exact kl
        · refine iteF ?_
          have i1' : i = 1 := by omega
          subst i1'
          have kk2 := kk.same sm2
          obtain ⟨dxa, ta, na, rsa, a1, a2, a3, a4⟩ := id kk2
          obtain ⟨dxb, tb, nb2, rsb, c1, c2, c3, c4⟩ := id kl
          have l2' : rs.length = 2 := by omega
          have t1 : (rs.map (·.1)).take 1 = [rs[0].1] := by
            cases rs with
            | nil => simp at l2'
            | cons x r => rfl
          have f0 : Fine (onceL ((rs.map (·.1)).take 1)) := by
            rw [t1]
            exact fine_once (by simp) (by show 1 ≤ 2; decide) fun r hr => by rw [List.mem_singleton.mp hr]; exact g _ (List.getElem_mem _)
          have f1 : Fine [rs[1].1] := fine_of (by simp) (by show 1 ≤ 2; decide) fun r hr => by rw [List.mem_singleton.mp hr]; exact gi
          have eo : orL (onceL ((rs.map (·.1)).take 1)) [rs[1].1] = (rs.map (·.1)).take (1 + 1) := by
            rw [ti, t1]
            rfl
          have f2 : Fine (onceL ((rs.map (·.1)).take (1 + 1))) := by
            refine fine_once (by rw [ti]; simp) (by rw [List.length_take]; omega) fun r hr => ?_
            obtain ⟨u, hu, rfl⟩ := List.mem_map.mp (List.mem_of_mem_take hr)
            exact g u hu
          refine ⟨_, rfl, _, rfl, kh, dxa, _, ko, dxb, _, rfl, rfl, a1, c1, kh, ko, _, _, rfl, kk2, kl, f0, f1, fun big => ?_, fun _ k2 H4 s4 k4 => ?_⟩
          · rw [eo, f2.big] at big
            cases big
          · rw [eo] at k4
            exact ⟨.ref k2, _, _, _, _, _, rfl, (sm.trans sm2).trans s4, .inr ⟨by omega, k2, rfl, k4⟩⟩
    · rintro σ H1 ⟨v1, x2, x3, x4, x5, x6, rfl, sm, hv⟩
      have lv : (rowsV rs).length = rs.length := List.length_map _
      rcases hv with ⟨e0, _⟩ | ⟨_, kh, rfl, kk⟩
      · omega
      · have ef : (rs.map (·.1)).take (rowsV rs).length = rs.map (·.1) := List.take_of_length_le (by rw [lv, List.length_map]; exact Nat.le_refl _)
        rw [ef] at kk
        exact ⟨_, rfl, q kh H1 sm kk⟩
end
end K04

set_option autoImplicit false
set_option maxErrors 4
namespace K04
open PySem PySem.Spec PyProof.Rows L2 Tl
/-! ### the law's own reckoning with alternatives -/
/-- alternatives in a list -/
structure RL (H : Hp) (a : Addr) (rs : Rws) : Prop where
  at_ : H a = some (.lst (rowsV rs))
  ok : RowsAt H rs
  tx : ∀ x ∈ rs, TxR x.1
  ne : ∀ x ∈ rs, x.1 ≠ []
  few : rs.length ≤ 1000
theorem RL.same {H H' : Hp} {a : Addr} {rs : Rws} (h : RL H a rs) (s : Same H H') : RL H' a rs := ⟨s _ _ h.at_, h.ok.same s, h.tx, h.ne, h.few⟩
theorem rowsV_len (rs : Rws) : (rowsV rs).length = rs.length := List.length_map _
theorem rowsV_get {rs : Rws} {i : Nat} {x : V} (h : (rowsV rs)[i]? = some x) : ∃ hi : i < rs.length, x = .ref rs[i].2 := by
  have z := List.getElem?_eq_some_iff.mp h
  obtain ⟨z, _⟩ := z
  have hi : i < rs.length := by rw [rowsV_len] at z; exact z
  refine ⟨hi, ?_⟩
  unfold rowsV at h
  rw [List.getElem?_map, List.getElem?_eq_getElem hi] at h
  exact (Option.some.inj h).symm
theorem any_row (l : List RowL) (r : RowL) : (l.map rowD).any (fun z => PyData.eqv z (rowD r)) = decide (r ∈ l) := by
  rw [List.any_map, Bool.eq_iff_iff, List.any_eq_true, decide_eq_true_eq]
  constructor
  · rintro ⟨y, hy, e⟩
    have e : PyData.eqv (rowD y) (rowD r) = true := e
    rw [eqv_row, decide_eq_true_eq] at e
    rw [← e]
    exact hy
  · intro h
    refine ⟨r, h, ?_⟩
    show PyData.eqv (rowD r) (rowD r) = true
    rw [eqv_row]
    simp
section
variable {P : Program} {w : World} {K : PySem.W.Frag} {mg : Str → Option Value} {base : Heap} {NC KC BK C : Addr}
/-- a new list of the alternatives rows -/
abbrev GivesRL (H : Hp) (Q : VK) (rows : List RowL) : Prop := ∀ (p : Addr) (ks : Rws) (H' : Hp), Same H H' → H p = none → RL H' p ks → ks.map (·.1) = rows → Q (.ref p) H'
def spKept : Sp := fun vs H Q _ => ∃ (a : Addr) (rs : Rws), vs = [.ref a] ∧ RL H a rs ∧ GivesRL H Q (onceL (rs.map (·.1)))
set_option maxHeartbeats 20000000 in
theorem ok_kept {f : Addr} {fd : FuncData} (F : FnP K "_law_kept" "_law_kept" s_l_kept f fd) : FnOk P w K mg base CX0 1 f fd ["_law_rows_here"] spKept := by
  have nd := sc_l_kept.nd
  refine F.ok sc_l_kept (fun vs H Q E h => ?_) (fun cdv A outer s H vs Q E hr h => ?_)
  · obtain ⟨a, rs, rfl, _⟩ := h
    rfl
  · obtain ⟨a, rs, rfl, rl, q⟩ := h
    have hu : (A.deeper (envOfC "_law_kept" (defScope s_l_kept) s.heap.objs.size f cdv)).units + 65 < cLine := by have := hr.un; omega
    refine ⟨_, PSs.nox (pss_cons (ps_set (i := 1) nd rfl (.inl rfl) (pe_lst pa_nil))
      (pss_cons (ps_for PassesOwn.never rfl (pi_list (pv 0)) (pg_name (i := 2) nd rfl (.inl rfl))
        (pss_one (ps_if (pt_cmpR (r := rNotInD K) (op_notInD hu) (pv 2) (pv 1) rfl) (pss_one (ps_expr (pe_bm PySem.F.plainAttrs_list PySem.F.slot_list_append PySem.F.type_list_append mt_append (pv 1) (pa_cons (pv 2) pa_nil)))) pss_nil)))
      (pss_one (ps_ret (pv 1))))), ?_⟩
    refine ⟨Nat.zero_le _, fun p hp => ?_⟩
    have s1 := same_new (o := .lst []) hp
    refine ⟨_, rfl, a, rfl, ⟨_, SqL.of (s1 _ _ rl.at_)⟩, ?_⟩
    refine for_list (xs := rowsV rs) (fun i σ H' => ∃ (ks : Rws) (x2 : Option V), σ = [some (.ref a), some (.ref p), x2] ∧ Same H H' ∧ RL H' p ks ∧ ks.length ≤ i ∧ ks.map (·.1) = ((rs.map (·.1)).take i).foldl putL []) ⟨[], none, rfl, s1, ⟨upd_same, (fun x hx => by cases hx), by simp, by simp, Nat.zero_le _⟩, Nat.le_refl _, rfl⟩ (fun i σ H' _ h => by
      obtain ⟨_, _, _, sm, _⟩ := h
      exact SqL.of (sm _ _ rl.at_)) ?_ ?_
    · rintro i x σ H1 hx ⟨ks, x2, rfl, sm, kl, kn, ke⟩
      obtain ⟨hi, rfl⟩ := rowsV_get hx
      have nk := (rl.ok.same sm) _ (List.getElem_mem hi)
      have tx := rl.tx _ (List.getElem_mem hi)
      have ti : ((rs.map (·.1)).take (i + 1)).foldl putL [] = putL (ks.map (·.1)) rs[i].1 := by
        rw [List.take_add_one, List.getElem?_map, List.getElem?_eq_getElem hi, List.foldl_append, ← ke]
        rfl
      refine ⟨_, rfl, _, rfl, rowD rs[i].1, (ks.map (·.1)).map rowD, row_dp nk, .lst (SqL.of kl.at_) (rows_dp kl.ok), shaped_of (rowD_ok tx) (by decide), listD_ok (fun r hr => by
        obtain ⟨y, hy, rfl⟩ := List.mem_map.mp hr
        exact kl.tx y hy), _, rfl, ?_⟩
      rw [any_row]
      by_cases m : rs[i].1 ∈ ks.map (·.1)
      · rw [decide_eq_true m]
        refine iteF ⟨ks, _, rfl, sm, kl, by omega, ?_⟩
        rw [ti]
        unfold putL
        rw [if_pos m]
      · rw [decide_eq_false m]
        refine iteT ?_
        have few := rl.few
        refine ⟨.ref p, rfl, .inl ⟨rfl, _, SqL.of kl.at_⟩, _, rfl, p, _, _, rfl, rfl, kl.at_, by rw [rowsV_len]; exact small1000 (by omega), ?_⟩
        have tp := upd_tups (u := .lst (rowsV ks ++ [.ref rs[i].2])) kl.at_
        refine ⟨ks ++ [rs[i]], _, rfl, fun x o e => ?_, ⟨?_, ?_, ?_, ?_, ?_⟩, by rw [List.length_append, List.length_singleton]; omega, ?_⟩
        · rw [upd_ne (ne_of_none e hp)]
          exact sm _ _ e
        · rw [upd_same]
          unfold rowsV
          rw [List.map_append]
          rfl
        · intro y hy
          rcases List.mem_append.mp hy with hy | hy
          · exact nkT tp _ _ (kl.ok y hy)
          · rw [List.mem_singleton.mp hy]
            exact nkT tp _ _ nk
        · intro y hy
          rcases List.mem_append.mp hy with hy | hy
          · exact kl.tx y hy
          · rw [List.mem_singleton.mp hy]
            exact tx
        · intro y hy
          rcases List.mem_append.mp hy with hy | hy
          · exact kl.ne y hy
          · rw [List.mem_singleton.mp hy]
            exact rl.ne _ (List.getElem_mem hi)
        · rw [List.length_append, List.length_singleton]
          omega
        · rw [ti, List.map_append]
          unfold putL
          rw [if_neg m]
          rfl
    · rintro σ H1 ⟨ks, x2, rfl, sm, kl, kn, ke⟩
      have ef : (rs.map (·.1)).take (rowsV rs).length = rs.map (·.1) := List.take_of_length_le (by rw [rowsV_len, List.length_map]; exact Nat.le_refl _)
      rw [ef] at ke
      exact ⟨_, rfl, q p ks H1 sm hp kl ke⟩
def spFits : Sp := fun vs H Q _ => ∃ (a : Addr) (rs : Rws), vs = [.ref a] ∧ RL H a rs ∧ 1 ≤ rs.length ∧ ∀ H', Same H H' → Q (.bl (!bigL (rs.map (·.1)))) H'
set_option maxHeartbeats 20000000 in
theorem ok_fits {f : Addr} {fd : FuncData} (F : FnP K "_law_fits" "_law_fits" s_l_fits f fd) (N : Nms mg) : FnOk P w K mg base CX0 1 f fd ["_law_rows_here"] spFits := by
  have nd := sc_l_fits.nd
  refine F.ok sc_l_fits (fun vs H Q E h => ?_) (fun cdv A outer s H vs Q E hr h => ?_)
  · obtain ⟨a, rs, rfl, _⟩ := h
    rfl
  · obtain ⟨a, rs, rfl, rl, l1, q⟩ := h
    refine ⟨_, PSs.nox (pss_cons (ps_set (i := 1) nd rfl (by first | exact .inl rfl | exact .inr rfl) pe_int)
      (pss_cons (ps_for PassesOwn.never rfl (pi_list (pv 0)) (pg_name (i := 2) nd rfl (by first | exact .inl rfl | exact .inr rfl))
        (pss_one (ps_for PassesOwn.never rfl (pi_tup (pv 2)) (pg_tup rfl (pgs_cons (pg_name (i := 3) nd rfl (by first | exact .inl rfl | exact .inr rfl)) (pgs_cons (pg_name (i := 4) nd rfl (by first | exact .inl rfl | exact .inr rfl)) (pgs_cons (pg_name (i := 5) nd rfl (by first | exact .inl rfl | exact .inr rfl)) pgs_nil))))
          (pss_one (ps_if (pt_cmpR op_isN (pv 5) pe_non (nomark _)) (pss_one (ps_set (i := 1) nd rfl (by first | exact .inl rfl | exact .inr rfl) (pe_op op_add (pv 1) (pe_callB (call_max2 rfl) (by rfl) N.max (by decide +kernel) (pa_cons (pv 4) (pa_cons pe_int pa_nil))))))
            (pss_one (ps_set (i := 1) nd rfl (by first | exact .inl rfl | exact .inr rfl) (pe_op op_add (pv 1) (pv 5)))))))))
      (pss_one (ps_ret (pe_and (pe_cmpR op_le (pe_callB call_len_seq (by rfl) N.len PySem.boot_len (pa_cons (pv 0) pa_nil)) pe_int (nomark _)) (pe_and (pe_cmpR op_le (pe_callB (cr_max rfl) (by rfl) N.max (by decide +kernel) (pa_cons (pe_lc (own := [("_law_row", 2)]) (g := gName 2) (tt := tYes) rfl nd (pi_list (pv 0)) (blkOk_by (N := ["_law_rows_here", "_law_many", "_law_row", "_law_signs_here", "_law_least", "_law_top"]) (sc := defScope s_l_fits) (by decide +kernel))
        (fun _ _ _ _ _ => pg_name (i := 2) nd rfl (Or.inl rfl)) (fun _ _ _ _ _ => pts_nil) (fun _ _ _ _ _ => pe_callB (r := rLenSeq K) call_len_seq (by rfl) N.len PySem.boot_len (pa_cons (pv 2) pa_nil))) pa_nil)) pe_int (nomark _)) (pe_one (pe_cmpR op_le (pv 1) pe_int (nomark _))))))))), ?_⟩
    refine ⟨_, rfl, a, rfl, ⟨_, SqL.of rl.at_⟩, ?_⟩
    refine for_list (xs := rowsV rs) (fun i σ H' => ∃ (x2 x3 x4 x5 : Option V), σ = [some (.ref a), some (.int (((rs.map (·.1)).take i).flatMap placesR).sum), x2, x3, x4, x5] ∧ Same H H') ⟨none, none, none, none, rfl, Same.refl H⟩ (fun i σ H' _ h => by
      obtain ⟨_, _, _, _, _, sm⟩ := h
      exact SqL.of (sm _ _ rl.at_)) ?_ ?_
    · rintro i x σ H1 hx ⟨x2, x3, x4, x5, rfl, sm⟩
      obtain ⟨hi, rfl⟩ := rowsV_get hx
      obtain ⟨bs, b1, b2, b3⟩ := row_at ((rl.ok.same sm) _ (List.getElem_mem hi))
      have nb : bs.length = rs[i].1.length := by rw [← b1, List.length_map]
      have nv : (runsV bs).length = bs.length := List.length_map _
      generalize hbase : ((((rs.map (·.1)).take i).flatMap placesR).sum) = old
      refine ⟨_, rfl, rs[i].2, rfl, ⟨_, SqT.of b2⟩, ?_⟩
      refine for_tup (xs := runsV bs) (fun j σ H' => ∃ (y3 y4 y5 : Option V), σ = [some (.ref a), some (.int ((old + (placesR (rs[i].1.take j)).sum : Nat) : Int)), some (.ref rs[i].2), y3, y4, y5] ∧ Same H1 H') ⟨x3, x4, x5, rfl, Same.refl H1⟩ (fun j σ H' _ h => by
        obtain ⟨_, _, _, _, sm⟩ := h
        exact SqT.of (sm _ _ b2)) ?_ ?_
      · rintro j y σ H2 hy ⟨y3, y4, y5, rfl, sm2⟩
        have hj : j < bs.length := by
          obtain ⟨z, _⟩ := List.getElem?_eq_some_iff.mp hy
          rw [nv] at z
          exact z
        have ey : y = .ref bs[j].2 := by
          unfold runsV at hy
          rw [List.getElem?_map, List.getElem?_eq_getElem hj] at hy
          exact (Option.some.inj hy).symm
        subst ey
        have ra : H2 bs[j].2 = some (.tup [.str bs[j].1.1, .int (bs[j].1.2.1 : Nat), mostV bs[j].1.2.2]) := sm2 _ _ (b3 _ (List.getElem_mem hj))
        have er : rs[i].1[j]? = some bs[j].1 := by
          rw [← b1, List.getElem?_map, List.getElem?_eq_getElem hj]
          rfl
        have et : (placesR (rs[i].1.take (j + 1))).sum = (placesR (rs[i].1.take j)).sum + pcR bs[j].1 := by
          rw [List.take_add_one, er]
          unfold placesR
          rw [List.map_append, List.sum_append]
          simp
        refine ⟨bs[j].2, _, rfl, SqT.of ra, rfl, _, _, rfl, _, _, rfl, _, _, rfl, rfl, ?_⟩
        rw [et]
        generalize (placesR (rs[i].1.take j)).sum = so
        obtain ⟨⟨s1, l, m⟩, ad⟩ := bs[j]
        cases m with
        | none =>
          refine ⟨_, rfl, rfl, _, rfl, iteT ?_⟩
          refine ⟨_, rfl, _, rfl, (l : Int), 1, rfl, _, _, rfl, rfl, ?_⟩
          refine ⟨some (.str s1), some (.int (l : Nat)), some .non, ?_, sm2⟩
          have e : ((old + so : Nat) : Int) + (if (1 : Int) > (l : Int) then (1 : Int) else (l : Int)) = ((old + (so + pcR (s1, l, none)) : Nat) : Int) := by
            have e2 : pcR (s1, l, none) = max l 1 := rfl
            rw [e2]
            split <;> omega
          exact congrArg (fun z : Int => [some (V.ref a), some (V.int z), some (V.ref rs[i].2), some (V.str s1), some (V.int (l : Nat)), some V.non]) e
        | some m =>
          refine ⟨_, rfl, rfl, _, rfl, iteF ?_⟩
          refine ⟨_, rfl, _, rfl, _, _, rfl, rfl, ?_⟩
          refine ⟨some (.str s1), some (.int (l : Nat)), some (.int (m : Nat)), ?_, sm2⟩
          have e : ((old + so : Nat) : Int) + ((m : Nat) : Int) = ((old + (so + pcR (s1, l, some m)) : Nat) : Int) := by
            have e2 : pcR (s1, l, some m) = m := rfl
            rw [e2]
            omega
          exact congrArg (fun z : Int => [some (V.ref a), some (V.int z), some (V.ref rs[i].2), some (V.str s1), some (V.int (l : Nat)), some (V.int (m : Nat))]) e
      · rintro σ H2 ⟨y3, y4, y5, rfl, sm2⟩
        refine ⟨some (.ref rs[i].2), y3, y4, y5, ?_, sm.trans sm2⟩
        have ef : rs[i].1.take (runsV bs).length = rs[i].1 := List.take_of_length_le (by rw [nv, nb]; exact Nat.le_refl _)
        rw [ef, ← hbase, List.take_add_one, List.getElem?_map, List.getElem?_eq_getElem hi, List.flatMap_append, List.sum_append]
        simp
    · rintro σ H1 ⟨x2, x3, x4, x5, rfl, sm⟩
      have ef : (rs.map (·.1)).take (rowsV rs).length = rs.map (·.1) := List.take_of_length_le (by rw [rowsV_len, List.length_map]; exact Nat.le_refl _)
      rw [ef]
      have few := rl.few
      have e1 := sm _ _ rl.at_
      refine ⟨_, rfl, a, _, rfl, .inl (SqL.of e1), _, _, rfl, rfl, _, rfl, ?_⟩
      rw [rowsV_len]
      have bl : bigL (rs.map (·.1)) = (decide (20 < rs.length) || ((rs.map (·.1)).any fun r => decide (20 < r.length)) || decide (120 < ((rs.map (·.1)).flatMap placesR).sum)) := by
        unfold bigL
        rw [List.length_map]
      rw [bl] at q
      by_cases c1 : 20 < rs.length
      · refine (if_neg (by simp; omega)).mpr ?_
        rw [decide_eq_true c1] at q
        exact q H1 sm
      · refine (if_pos (decide_eq_true (by omega))).mpr ?_
        rw [decide_eq_false c1, Bool.false_or] at q
        refine ⟨_, rfl, a, rfl, ⟨_, SqL.of e1⟩, fun D hD => ?_⟩
        refine lc_it (n := rs.length) (by rw [← rowsV_len]; exact walk_list) (fun j H' => H' D = some (.lst ((rs.take j).map fun x => V.int (x.1.length : Nat))) ∧ Same H1 H') ⟨upd_same, same_new hD⟩ (fun j H' _ h => SqL.of (h.2 _ _ e1)) ?_ ?_
        · rintro j y _ H2 hj ⟨e, s2⟩ ⟨rfl, hy⟩
          obtain ⟨hj2, rfl⟩ := rowsV_get hy
          obtain ⟨bs, b1, b2, b3⟩ := row_at ((rl.ok.same (sm.trans s2)) _ (List.getElem_mem hj2))
          have nb : (runsV bs).length = rs[j].1.length := by
            unfold runsV
            rw [← b1, List.length_map, List.length_map]
          refine ⟨rfl, yes_keep ?_⟩
          refine ⟨_, rfl, rs[j].2, _, rfl, .inr (SqT.of b2), _, e, ?_, ?_, fun b o z => ?_⟩
          · rw [List.length_map, List.length_take]
            exact small1000 (by omega)
          · rw [upd_same, List.take_add_one, List.getElem?_eq_getElem hj2, List.map_append, nb]
            rfl
          · rw [upd_ne (ne_of_none z hD)]
            exact s2 _ _ z
        · rintro H2 ⟨e, s2⟩
          rw [List.take_of_length_le (Nat.le_refl _)] at e
          have el : (rs.map fun x => V.int (x.1.length : Nat)) = (rs.map fun x => ((x.1.length : Nat) : Int)).map V.int := by
            rw [List.map_map]
            rfl
          rw [el] at e
          refine ⟨D, _, rfl, SqL.of e, (by rw [List.length_map]; omega), fun mx hm hle => ⟨_, _, rfl, rfl, _, rfl, ?_⟩⟩
          have ea : ((rs.map (·.1)).any fun r => decide (20 < r.length)) = decide (20 < mx) := by
            rw [Bool.eq_iff_iff, List.any_eq_true, decide_eq_true_eq]
            constructor
            · rintro ⟨r, hr, h⟩
              obtain ⟨y, hy, rfl⟩ := List.mem_map.mp hr
              have z := hle _ (List.mem_map.mpr ⟨y, hy, rfl⟩)
              have h := of_decide_eq_true h
              omega
            · intro h
              obtain ⟨y, hy, ey⟩ := List.mem_map.mp hm
              refine ⟨y.1, List.mem_map.mpr ⟨y, hy, rfl⟩, decide_eq_true ?_⟩
              omega
          rw [ea] at q
          by_cases c2 : 20 < mx
          · refine (if_neg (by simp; omega)).mpr ?_
            rw [decide_eq_true c2] at q
            exact q H2 (sm.trans s2)
          · refine (if_pos (decide_eq_true (by omega))).mpr ?_
            rw [decide_eq_false c2, Bool.false_or] at q
            refine ⟨_, rfl, _, _, rfl, rfl, ?_⟩
            have eb : (!decide (120 < ((rs.map (·.1)).flatMap placesR).sum)) = decide ((((((rs.map (·.1)).flatMap placesR).sum) : Nat) : Int) ≤ 120) := by
              rw [Bool.eq_iff_iff]
              simp
              omega
            rw [eb] at q
            exact q H2 (sm.trans s2)
end
end K04

set_option autoImplicit false
set_option maxErrors 4
namespace K04
open PySem PySem.Spec PyProof.Rows L2 Tl
/-! ### products, powers -/
theorem onceL_once {rows : List RowL} (h : rows.Nodup) : onceL rows = rows := by
  have key : ∀ (xs acc : List RowL), (acc ++ xs).Nodup → xs.foldl putL acc = acc ++ xs := by
    intro xs
    induction xs with
    | nil => intro acc _; simp
    | cons x xs ih =>
      intro acc nd
      have nx : x ∉ acc := fun m => (List.nodup_append.mp nd).2.2 x m x List.mem_cons_self rfl
      rw [List.foldl_cons]
      have e : putL acc x = acc ++ [x] := by
        unfold putL
        rw [if_neg nx]
      rw [e, ih _ (by rw [List.append_assoc]; exact nd), List.append_assoc]
      rfl
  exact key rows [] h
theorem onceL_nd (rows : List RowL) : (onceL rows).Nodup := by
  have key : ∀ (xs acc : List RowL), acc.Nodup → (xs.foldl putL acc).Nodup := by
    intro xs
    induction xs with
    | nil => exact fun _ h => h
    | cons x xs ih =>
      intro acc nd
      refine ih _ ?_
      unfold putL
      split
      · exact nd
      · rename_i nx
        refine List.nodup_append.mpr ⟨nd, List.nodup_cons.mpr ⟨by simp, List.nodup_nil⟩, fun a ha b hb e => ?_⟩
        rw [List.mem_singleton.mp hb] at e
        exact nx (e ▸ ha)
  exact key rows [] List.nodup_nil
theorem onceL_idem (rows : List RowL) : onceL (onceL rows) = onceL rows := onceL_once (onceL_nd rows)
def powP (ra : List RowL) : Nat → List RowL
  | 0 => ra
  | i + 1 => if bigL (powP ra i) = true then powP ra i else onceL (prodL (powP ra i) ra)
theorem powM_fine {ra : List RowL} (fa : Fine ra) : ∀ {i : Nat} {w : List RowL}, powM ra i = some w → Fine w
  | 0, w, h => by
    cases h
    exact fa
  | i + 1, w, h => by
    unfold powM at h
    cases e : powM ra i with
    | none =>
      rw [e] at h
      cases h
    | some v =>
      rw [e] at h
      have h : (if bigL (onceL (prodL v ra)) = true then none else some (onceL (prodL v ra))) = some w := h
      split at h
      · cases h
      · rename_i nb
        cases h
        exact fine_prod (powM_fine fa e) fa (by simpa using nb)
theorem powP_of {ra : List RowL} (fa : Fine ra) : ∀ i : Nat, (∀ w, powM ra i = some w → powP ra i = w) ∧ (powM ra i = none → bigL (powP ra i) = true)
  | 0 => ⟨fun w h => (by cases h; rfl), fun h => (by cases h)⟩
  | i + 1 => by
    obtain ⟨a, b⟩ := powP_of fa i
    cases e : powM ra i with
    | none =>
      have big := b e
      have en : powM ra (i + 1) = none := powM_none e (by omega)
      refine ⟨fun w h => (by rw [en] at h; cases h), fun _ => ?_⟩
      unfold powP
      rw [if_pos big]
      exact big
    | some v =>
      have ev := a v e
      have nb := (powM_fine fa e).big
      have eM : powM ra (i + 1) = if bigL (onceL (prodL v ra)) = true then none else some (onceL (prodL v ra)) := by
        conv => lhs; unfold powM
        rw [e]
        rfl
      have eP : powP ra (i + 1) = onceL (prodL v ra) := by
        conv => lhs; unfold powP
        rw [ev, if_neg (by rw [nb]; decide)]
      rw [eM, eP]
      refine ⟨fun w h => ?_, fun h => ?_⟩
      · split at h
        · cases h
        · cases h
          rfl
      · split at h
        · assumption
        · cases h
section
variable {P : Program} {w : World} {K : PySem.W.Frag} {mg : Str → Option Value} {base : Heap} {NC KC BK C : Addr}
def spProd : Sp := fun vs H Q _ => ∃ (a b : Addr) (ra rb : Rws), vs = [.ref a, .ref b] ∧ RL H a ra ∧ RL H b rb ∧ ra.length * rb.length ≤ 900 ∧ (∀ x ∈ ra, x.1.length ≤ 1000) ∧ (∀ x ∈ rb, x.1.length ≤ 1000) ∧ GivesRL H Q (onceL (prodL (ra.map (·.1)) (rb.map (·.1))))
set_option maxHeartbeats 20000000 in
theorem ok_prod {f : Addr} {fd : FuncData} (F : FnP K "_law_product" "_law_product" s_l_product f fd) (C1 : Can P w K mg base CX0 "_law_kept" ["_law_rows_here"] 1 spKept) : FnOk P w K mg base CX0 2 f fd ["_law_rows_here", "_law_others"] spProd := by
  obtain ⟨fC, fdC, GC, gC, kC, bC⟩ := C1
  have nd := sc_l_product.nd
  refine F.ok sc_l_product (fun vs H Q E h => ?_) (fun cdv A outer s H vs Q E hr h => ?_)
  · obtain ⟨a, b, ra, rb, rfl, _⟩ := h
    rfl
  · obtain ⟨a, b, ra, rb, rfl, la, lb, small, wa, wb, q⟩ := h
    refine ⟨_, PSs.nox (pss_cons (ps_set (i := 2) nd rfl (.inl rfl) (pe_lst pa_nil))
      (pss_cons (ps_for PassesOwn.never rfl (pi_list (pv 0)) (pg_name (i := 3) nd rfl (.inl rfl))
        (pss_one (ps_for PassesOwn.never rfl (pi_list (pv 1)) (pg_name (i := 4) nd rfl (.inl rfl))
          (pss_one (ps_expr (pe_bm PySem.F.plainAttrs_list PySem.F.slot_list_append PySem.F.type_list_append mt_append (pv 2) (pa_cons (pe_op op_catT (pv 3) (pv 4)) pa_nil)))))))
      (pss_one (ps_ret (pe_call GC hr (by rfl) gC kC bC .nil pass0 (pa_cons (pv 2) pa_nil)))))), ?_⟩
    refine ⟨Nat.zero_le _, fun p hp => ?_⟩
    have s1 := same_new (o := .lst []) hp
    refine ⟨_, rfl, a, rfl, ⟨_, SqL.of (s1 _ _ la.at_)⟩, ?_⟩
    refine for_list (xs := rowsV ra) (fun i σ H' => ∃ (ks : Rws) (x3 x4 : Option V), σ = [some (.ref a), some (.ref b), some (.ref p), x3, x4] ∧ Same H H' ∧ RL H' p ks ∧ ks.map (·.1) = prodL ((ra.map (·.1)).take i) (rb.map (·.1))) ⟨[], none, none, rfl, s1, ⟨upd_same, (fun x hx => by cases hx), by simp, by simp, Nat.zero_le _⟩, rfl⟩ (fun i σ H' _ h => by
      obtain ⟨_, _, _, _, sm, _⟩ := h
      exact SqL.of (sm _ _ la.at_)) ?_ ?_
    · rintro i x σ H1 hx ⟨ks, x3, x4, rfl, sm, kl, ke⟩
      obtain ⟨hi, rfl⟩ := rowsV_get hx
      refine ⟨_, rfl, b, rfl, ⟨_, SqL.of (sm _ _ lb.at_)⟩, ?_⟩
      refine for_list (xs := rowsV rb) (fun j σ H' => ∃ (ks : Rws) (x4 : Option V), σ = [some (.ref a), some (.ref b), some (.ref p), some (.ref ra[i].2), x4] ∧ Same H H' ∧ RL H' p ks ∧ ks.map (·.1) = prodL ((ra.map (·.1)).take i) (rb.map (·.1)) ++ ((rb.map (·.1)).take j).map (fun y => ra[i].1 ++ y)) ⟨ks, x4, rfl, sm, kl, by rw [List.take_zero, List.map_nil, List.append_nil]; exact ke⟩ (fun i σ H' _ h => by
        obtain ⟨_, _, _, sm, _⟩ := h
        exact SqL.of (sm _ _ lb.at_)) ?_ ?_
      · rintro j y σ H3 hy ⟨ks, x4, rfl, sm, kl, ke⟩
        obtain ⟨hj, rfl⟩ := rowsV_get hy
        obtain ⟨bs1, x1, x2, x3'⟩ := row_at ((la.ok.same sm) _ (List.getElem_mem hi))
        obtain ⟨bs2, y1, y2, y3⟩ := row_at ((lb.ok.same sm) _ (List.getElem_mem hj))
        have n1 : bs1.length = ra[i].1.length := by rw [← x1, List.length_map]
        have n2 : bs2.length = rb[j].1.length := by rw [← y1, List.length_map]
        have v1 : (runsV bs1).length = bs1.length := List.length_map _
        have v2 : (runsV bs2).length = bs2.length := List.length_map _
        have w1 := wa _ (List.getElem_mem hi)
        have w2 := wb _ (List.getElem_mem hj)
        have p1 : 0 < ra[i].1.length := List.length_pos_iff.mpr (la.ne _ (List.getElem_mem hi))
        have p2 : 0 < rb[j].1.length := List.length_pos_iff.mpr (lb.ne _ (List.getElem_mem hj))
        refine ⟨.ref p, rfl, .inl ⟨rfl, _, SqL.of kl.at_⟩, _, rfl, _, rfl, _, _, runsV bs1, runsV bs2, rfl, rfl, SqT.of x2, SqT.of y2, (fun z => by rw [z] at v1; simp at v1; omega), line_small (by omega), (fun z => by rw [z] at v2; simp at v2; omega), fun _ u hu => ?_⟩
        have k1 := same_new (o := .tup (runsV bs1 ++ runsV bs2)) hu
        have eD := k1 _ _ kl.at_
        have rv : runsV bs1 ++ runsV bs2 = runsV (bs1 ++ bs2) := by
          unfold runsV
          rw [List.map_append]
        have nk : NkV (upd H3 u (.tup (runsV bs1 ++ runsV bs2))) (rowK (ra[i].1 ++ rb[j].1)) (.ref u) := by
          have z := row_is (H := upd H3 u (.tup (runsV bs1 ++ runsV bs2))) (a := u) (bs := bs1 ++ bs2) (by rw [upd_same, rv]) (fun x hx => (List.mem_append.mp hx).elim (fun h => k1 _ _ (x3' x h)) fun h => k1 _ _ (y3 x h))
          rw [List.map_append, x1, y1] at z
          exact z
        have lk : ks.length = (i * rb.length + j) := by
          have z := congrArg List.length ke
          simp only [List.length_map, List.length_append, prodL_len, List.length_take] at z
          rw [Nat.min_eq_left (show i ≤ ra.length by omega), Nat.min_eq_left (show j ≤ rb.length by omega)] at z
          exact z
        have bound : (i + 1) * rb.length ≤ ra.length * rb.length := Nat.mul_le_mul_right _ (by omega)
        rw [Nat.succ_mul] at bound
        refine ⟨p, _, _, rfl, rfl, eD, by rw [rowsV_len]; exact small1000 (by omega), ?_⟩
        have tp := upd_tups (u := .lst (rowsV ks ++ [.ref u])) eD
        refine ⟨ks ++ [(ra[i].1 ++ rb[j].1, u)], _, rfl, fun x o e => ?_, ⟨?_, ?_, ?_, ?_, ?_⟩, ?_⟩
        · rw [upd_ne (ne_of_none e hp)]
          exact k1 _ _ (sm _ _ e)
        · rw [upd_same]
          unfold rowsV
          rw [List.map_append]
          rfl
        · intro y hy
          rcases List.mem_append.mp hy with hy | hy
          · exact nkT tp _ _ ((kl.ok.same k1) y hy)
          · rw [List.mem_singleton.mp hy]
            exact nkT tp _ _ nk
        · intro y hy
          rcases List.mem_append.mp hy with hy | hy
          · exact kl.tx y hy
          · rw [List.mem_singleton.mp hy]
            exact fun z hz => (List.mem_append.mp hz).elim (la.tx _ (List.getElem_mem hi) z) (lb.tx _ (List.getElem_mem hj) z)
        · intro y hy
          rcases List.mem_append.mp hy with hy | hy
          · exact kl.ne y hy
          · rw [List.mem_singleton.mp hy]
            intro z
            have z := congrArg List.length z
            rw [List.length_append, List.length_nil] at z
            omega
        · rw [List.length_append, List.length_singleton]
          omega
        · rw [List.map_append, ke, List.take_add_one, List.getElem?_map, List.getElem?_eq_getElem hj, List.map_append, List.append_assoc]
          rfl
      · rintro σ H3 ⟨ks, x4, rfl, sm, kl, ke⟩
        refine ⟨ks, _, _, rfl, sm, kl, ?_⟩
        have ef : (rb.map (·.1)).take (rowsV rb).length = rb.map (·.1) := List.take_of_length_le (by rw [rowsV_len, List.length_map]; exact Nat.le_refl _)
        rw [ke, ef]
        unfold prodL
        rw [List.take_add_one, List.getElem?_map, List.getElem?_eq_getElem hi, List.flatMap_append]
        simp
    · rintro σ H1 ⟨ks, x3, x4, rfl, sm, kl, ke⟩
      have ef : (ra.map (·.1)).take (rowsV ra).length = ra.map (·.1) := List.take_of_length_le (by rw [rowsV_len, List.length_map]; exact Nat.le_refl _)
      rw [ef] at ke
      refine ⟨_, rfl, p, ks, rfl, kl, fun p2 k2 H2 s2 n2 kl2 ke2 => ?_⟩
      rw [ke] at ke2
      exact q p2 k2 H2 (sm.trans s2) (sm.free n2) kl2 ke2
def spPower : Sp := fun vs H Q _ => ∃ (a : Addr) (ra : Rws) (t : Nat), vs = [.ref a, .int (t : Nat)] ∧ RL H a ra ∧ 1 ≤ t ∧ t ≤ 9 ∧ Fine (onceL (ra.map (·.1))) ∧ (onceL (ra.map (·.1))).length ≤ 2 ∧ GivesRL H Q (powP (onceL (ra.map (·.1))) (t - 1))
set_option maxHeartbeats 20000000 in
theorem ok_power {f : Addr} {fd : FuncData} (F : FnP K "_law_power" "_law_power" s_l_power f fd) (N : Nms mg) (C1 : Can P w K mg base CX0 "_law_kept" ["_law_rows_here"] 1 spKept) (C2 : Can P w K mg base CX0 "_law_fits" ["_law_rows_here"] 1 spFits) (C3 : Can P w K mg base CX0 "_law_product" ["_law_rows_here", "_law_others"] 2 spProd) :
    FnOk P w K mg base CX0 3 f fd ["_law_rows_here", "_law_times_here"] spPower := by
  obtain ⟨fC, fdC, GC, gC, kC, bC⟩ := C1
  obtain ⟨fF, fdF, GF, gF, kF, bF⟩ := C2
  obtain ⟨fP, fdP, GP, gP, kP, bP⟩ := C3
  have nd := sc_l_power.nd
  refine F.ok sc_l_power (fun vs H Q E h => ?_) (fun cdv A outer s H vs Q E hr h => ?_)
  · obtain ⟨a, ra, t, rfl, _⟩ := h
    rfl
  · obtain ⟨a, ra, t, rfl, la, t1, t9, fa, l2, q⟩ := h
    have r1 := hr.mono (show 1 ≤ 2 by decide)
    refine ⟨_, PSs.nox (pss_cons (ps_set (i := 2) nd rfl (.inl rfl) (pe_call GC r1 (by rfl) gC kC bC .nil pass0 (pa_cons (pv 0) pa_nil)))
      (pss_cons (ps_for PassesOwn.never rfl (pi_range1 rfl N.range (pa_cons (pe_op op_sub (pv 1) pe_int) pa_nil)) (pg_name (i := 3) nd rfl (.inl rfl))
        (pss_cons (ps_if (pt_not (pt_val (pe_call GF r1 (by rfl) gF kF bF .nil pass0 (pa_cons (pv 2) pa_nil)))) (pss_one ps_break) pss_nil)
        (pss_one (ps_set (i := 2) nd rfl (.inl rfl) (pe_call GP hr (by rfl) gP kP bP .nil pass0 (pa_cons (pv 2) (pa_cons (pe_call GC r1 (by rfl) gC kC bC .nil pass0 (pa_cons (pv 0) pa_nil)) pa_nil)))))))
      (pss_one (ps_ret (pv 2))))), ?_⟩
    refine ⟨_, rfl, a, ra, rfl, la, fun p ks H1 s1 np kl ke => ?_⟩
    refine name_go ?_
    dsimp only
    refine ⟨_, rfl, _, _, rfl, rfl, ((t : Nat) : Int) - 1, rfl, by omega, by omega, ?_⟩
    generalize hrows : onceL (ra.map (·.1)) = rows at fa l2 q ke
    have fin : ∀ (i : Nat) (p : Addr) (ks : Rws) (H2 : Hp), i ≤ t - 1 → Same H H2 → H p = none → RL H2 p ks → ks.map (·.1) = powP rows i → powP rows i = powP rows (t - 1) → Q (.ref p) H2 := fun i p ks H2 _ s2 n2 k2 e2 e3 => q p ks H2 s2 n2 k2 (e2.trans e3)
    refine for_range (lo := 0) (n := (((t : Nat) : Int) - 1).toNat) (fun i σ H' => ∃ (p : Addr) (ks : Rws) (x3 : Option V), σ = [some (.ref a), some (.int (t : Nat)), some (.ref p), x3] ∧ Same H H' ∧ H p = none ∧ RL H' p ks ∧ ks.map (·.1) = powP rows i) ⟨p, ks, none, rfl, s1, np, kl, ke⟩ ?_ ?_
    · rintro i σ H2 hi ⟨p, ks, x3, rfl, s2, np, kl, ke⟩
      have nek : 1 ≤ ks.length := by
        have z : powP rows i ≠ [] := by
          have key : ∀ i, powP rows i ≠ [] := by
            intro i
            induction i with
            | zero => exact fa.ne
            | succ i ih =>
              unfold powP
              split
              · exact ih
              · refine onceL_ne fun z => ?_
                have z := congrArg List.length z
                rw [prodL_len] at z
                have h1 : 0 < (powP rows i).length := List.length_pos_iff.mpr ih
                have h2 : 0 < rows.length := List.length_pos_iff.mpr fa.ne
                have := Nat.mul_pos h1 h2
                simp at z
                omega
          exact key i
        rw [← ke] at z
        cases ks with
        | nil => exact absurd rfl z
        | cons x r => simp
      refine ⟨_, rfl, p, ks, rfl, kl, nek, fun H3 s3 => ⟨_, rfl, ?_⟩⟩
      rw [ke]
      have stuck : ∀ j, bigL (powP rows i) = true → i ≤ j → powP rows j = powP rows i := fun j hb le => by
        induction le with
        | refl => rfl
        | step _ ih =>
          conv => lhs; unfold powP
          rw [ih, if_pos hb]
      cases hb : bigL (powP rows i) with
      | true =>
        refine iteT ?_
        exact ⟨_, rfl, fin i p ks H3 (by omega) (s2.trans s3) np (kl.same s3) ke (stuck (t - 1) hb (by omega)).symm⟩
      | false =>
        refine iteF ?_
        have kl3 := kl.same s3
        refine ⟨_, rfl, _, rfl, a, ra, rfl, la.same (s2.trans s3), fun p2 k2 H4 s4 n2 kl2 ke2 => ?_⟩
        rw [hrows] at ke2
        have fl : ks.length ≤ 20 := by
          unfold bigL at hb
          rw [Bool.or_eq_false_iff, Bool.or_eq_false_iff] at hb
          have z := of_decide_eq_false hb.1.1
          have z2 := congrArg List.length ke
          rw [List.length_map] at z2
          omega
        have fr : ∀ x ∈ ks, x.1.length ≤ 20 := fun x hx => by
          unfold bigL at hb
          rw [Bool.or_eq_false_iff, Bool.or_eq_false_iff] at hb
          have z := List.any_eq_false.mp hb.1.2 x.1 (by rw [← ke]; exact List.mem_map.mpr ⟨x, hx, rfl⟩)
          simp only [decide_eq_true_eq] at z
          omega
        have k2l : k2.length ≤ 2 := by
          have z2 := congrArg List.length ke2
          rw [List.length_map] at z2
          omega
        refine ⟨p, p2, ks, k2, rfl, kl3.same s4, kl2, ?_, fun x hx => Nat.le_trans (fr x hx) (by decide), fun x hx => ?_, fun p3 k3 H5 s5 n3 kl5 ke5 => ?_⟩
        · have := Nat.mul_le_mul fl k2l
          omega
        · have m : x.1 ∈ rows := by
            rw [← ke2]
            exact List.mem_map.mpr ⟨x, hx, rfl⟩
          have := fa.row m
          omega
        · refine ⟨p3, k3, _, rfl, ((s2.trans s3).trans s4).trans s5, ((s2.trans s3).trans s4).free n3, kl5, ?_⟩
          rw [ke5, ke, ke2]
          conv => rhs; unfold powP
          rw [if_neg (by rw [hb]; decide)]
    · rintro σ H2 ⟨p, ks, x3, rfl, s2, np, kl, ke⟩
      have et : (((t : Nat) : Int) - 1).toNat = t - 1 := by omega
      rw [et] at ke
      exact ⟨_, rfl, fin (t - 1) p ks H2 (by omega) s2 np kl ke rfl⟩
def spFlag : Sp := fun vs H Q _ => ∃ a d : Bool, vs = [.bl a, .bl d] ∧ Q (.bl (decide (a = d))) H
theorem ok_flag {f : Addr} {fd : FuncData} (F : FnP K "_law_flag" "_law_flag" s_l_flag f fd) : FnOk P w K mg base CX0 1 f fd ["_law_actual", "_law_due"] spFlag := by
  refine F.ok sc_l_flag (fun vs H Q E h => ?_) (fun cdv A outer s H vs Q E hr h => ?_)
  · obtain ⟨a, d, rfl, _⟩ := h
    rfl
  · obtain ⟨a, d, rfl, q⟩ := h
    refine ⟨_, PSs.nox (pss_cons (ps_if (pt_val (pv 1)) (pss_one (ps_ret (pe_cmpR op_is_bl (pv 0) pe_bl (nomark _)))) pss_nil) (pss_one (ps_ret (pe_cmpR op_is_bl (pv 0) pe_bl (nomark _))))), ?_⟩
    cases d with
    | true => exact ⟨_, rfl, true, rfl, iteT ⟨_, rfl, a, true, rfl, rfl, q⟩⟩
    | false => exact ⟨_, rfl, false, rfl, iteF ⟨_, rfl, a, false, rfl, rfl, q⟩⟩
end
end K04

set_option autoImplicit false
set_option maxErrors 4
/-! try .. except C: with no name, what else it raises going on. -/
namespace Tl
open PySem PySem.Spec PyProof.Rows L2
open L2N (Zn)
def wBare (K : PySem.W.Frag) (c : Value) (ts : Addr → Value → Option Addr → TS) (Wo : WX) (D : Ends) : WX := fun cls d σ H =>
  ∃ yes, PySem.W.exmOne K cls c = some yes ∧ (yes = false → Wo cls d σ H) ∧ (yes = true → ∀ a, H a = none → ts a cls d D σ H)
theorem clause_bare {X : Cx} {pins : List (Addr × Obj)} {σ : L2.St} {H : Hp} {cls : Value} {d : Option Addr} {a : Addr} {B : Heap} {s0 s3 : Shared} {x : Str} {c : Value} {yes : Bool} {ts : Addr → Value → Option Addr → TS} {st : Stmt} {sts : List Stmt} {p1 p2 : Pos} {hds : List ExceptHandler} {E : Ends}
    (D : Down X pins σ H cls d a B s0 s3) (hf : X.env.frame = some X.env.locals) (nm : Names X x c)
    (su : ∀ (a : Addr) (oe : Obj) (cls : Value) (d : Option Addr) (pn : List (Addr × Obj)), Zn cls d oe → (∃ vs, oe.data = .fields vs) → PSs (X.suite a ((a, oe) :: pn)) (st :: sts) (ts a cls d))
    (hy : PySem.W.exmOne X.K cls c = some yes) (no : yes = false → wpAny (model X.prog X.w) X.A (handleBy (.ref a) X.env hds) (SP X pins E) X.xe s3)
    (ok : yes = true → ts a cls d E σ H) :
    wpAny (model X.prog X.w) X.A (handleBy (.ref a) X.env (.ExceptHandler (some (.Name x p1)) none (st :: sts) p2 :: hds)) (SP X pins E) X.xe s3 := by
  obtain ⟨o1, w1, g1, z1, e1, I1⟩ := D.inside hf
  have TY : PySem.W.Looks (model X.prog X.w) s3.heap (typeOf (.ref a)) cls := fun _ _ _ _ k q => wpAny_typeOf_ref (k _ _ g1) (by rw [z1.1]; exact q)
  have asked := PySem.W.exm_one (M := model X.prog X.w) D.here.kIn TY hy
  refine wpAny_handleBy_cons (codeAny_handlers_test ?_) fun q => by cases q
  have word : ∀ {Q E : Value → Shared → Prop}, Q c s3 → wpAny (model X.prog X.w) (X.A.mark (some (.ref a))) (eval (.Name x p1) X.env) Q E s3 := by
    intro Q E q
    obtain ⟨gl, nb, mine | ⟨other, boot, nn⟩⟩ := nm
    · exact ld_glob I1 gl mine q nb
    · exact ld_blt I1 gl other boot q nn nb
  refine word (asked.here ?_)
  cases yes with
  | false => exact no rfl
  | true =>
    refine codeAny_handlers_suite (HandSPX.lands_againZ D.fly fun hp f u => ?_)
    have D2 := D.next f u
    obtain ⟨o2, w2, g2, z2, e2, I2⟩ := D2.inside hf
    refine wpAny_mono ((su a o2 cls d _ z2 ⟨_, e2⟩).run [] _ σ H _ I2 (ok rfl)) (fun fl s6 h6 => ?_) fun _ _ z => z.elim
    cases fl with
    | ret u =>
      obtain ⟨v6, _, _, I6, r6, q6⟩ := h6
      exact ⟨v6, _, _, I6.unsuite D.inv.ok, r6, q6⟩
    | next =>
      obtain ⟨_, _, I6, q6⟩ := h6
      exact ⟨_, _, I6.unsuite D.inv.ok, q6⟩
    | brk =>
      obtain ⟨_, _, I6, q6⟩ := h6
      exact ⟨_, _, I6.unsuite D.inv.ok, q6⟩
    | cont =>
      obtain ⟨_, _, I6, q6⟩ := h6
      exact ⟨_, _, I6.unsuite D.inv.ok, q6⟩
theorem ps_try_bare {X : Cx} {body : List Stmt} {x : Str} {c : Value} {st : Stmt} {sts : List Stmt} {p1 p2 pos : Pos} {ts : Addr → Value → Option Addr → TS} {tb : WX → TS} {Wo : WX}
    (hs : X.stack = X.env :: X.outer) (hf : X.env.frame = some X.env.locals) (tk : L2N.Takes X Wo) (nm : Names X x c)
    (hb : ∀ (W : WX) (pn : List (Addr × Obj)) (xe : Value → Shared → Prop), L2N.Takes (X.tr pn xe) W → PassesOwn (model X.prog X.w) X.A X.env xe → PSs (X.tr pn xe) body (tb W))
    (su : ∀ (a : Addr) (oe : Obj) (cls : Value) (d : Option Addr) (pn : List (Addr × Obj)), Zn cls d oe → (∃ vs, oe.data = .fields vs) → PSs (X.suite a ((a, oe) :: pn)) (st :: sts) (ts a cls d)) :
    PS X (.Try body [.ExceptHandler (some (.Name x p1)) none (st :: sts) p2] [] [] pos) (fun E σ H => tb (wBare X.K c ts Wo E) E σ H) := by
  refine ⟨fun pins s σ H E I q => wpAny_Try_except (wpAny_mono ((hb _ (X.pn ++ pins) (fun u s1 => wpAny (model X.prog X.w) X.A (noteFrame u X.env) (fun _ s2 => wpAny (model X.prog X.w) X.A (setFlight u none) (fun _ s3 =>
    wpAny (model X.prog X.w) X.A (handleBy u X.env [.ExceptHandler (some (.Name x p1)) none (st :: sts) p2]) (SP X pins E) X.xe s3) X.xe s2) X.xe s1) (fun u s1 xx => ?_) PassesOwn.looking).run [] s σ H E (I.toTry _) q) (fun fl s1 h => ?_) fun _ _ z => z)⟩
  · obtain ⟨a, B, s0, pins2, σ1, H1, cls, d, rfl, J, low, up, sky, na, os, gs, w⟩ := xx
    have fr : X.A.frames = some (X.env :: X.outer) := by rw [I.ok.frames, hs]
    show wpAny _ X.A (noteFrame (.ref a) X.env) _ _ _
    refine L2N.Sky.land L2N.Zn.steady fr hf (by rw [← hs]; exact sky) fun hp fly u => ?_
    have D : Down X pins σ1 H1 cls d a B s0 { s1 with heap := hp } := ⟨J.ofTry I.ok, low, up.trans u, fly, os, gs, na⟩
    obtain ⟨yes, hy, no, ok⟩ := w
    exact clause_bare D hf nm su hy (fun n => clause_none D hs hf tk (no n)) fun y => ok y a D.na
  · cases fl with
    | ret u =>
      obtain ⟨v, _, _, J, r, z⟩ := h
      exact ⟨v, _, _, J.ofTry I.ok, r, z⟩
    | next =>
      obtain ⟨_, _, J, z⟩ := h
      exact wpAny_execs_nil ⟨_, _, J.ofTry I.ok, z⟩
    | brk =>
      obtain ⟨_, _, J, z⟩ := h
      exact ⟨_, _, J.ofTry I.ok, z⟩
    | cont =>
      obtain ⟨_, _, J, z⟩ := h
      exact ⟨_, _, J.ofTry I.ok, z⟩
end Tl

set_option autoImplicit false
set_option maxErrors 4
namespace K04
open PySem PySem.Spec PyProof.Rows L2 Tl
/-! ### Kind.words of good words -/
/-- [(c, 1, 1) for c in text] -/
theorem lc_wd {te te' : TE} {σ : L2.St} {H : Hp} {Q : VK} {l : List Nat} {i : Nat} (hl : l.length ≤ 1000)
    (hte : ∀ Q' : VK, Q' (.str (tx l)) H → te σ H Q') (hw : ∀ x : V, wipe ((wipe σ [i]).set i (some x)) [i] = wipe σ [i])
    (he : ∀ (n : Nat) (H2 : Hp) (Q' : VK), (∀ p, H2 p = none → Q' (.ref p) (upd H2 p (.tup [.str (sg n), .int 1, .int 1]))) → te' ((wipe σ [i]).set i (some (.str (sg n)))) H2 Q')
    (hq : ∀ (D : Addr) (bs : Rns) (H' : Hp), Same H H' → H' D = some (.lst (runsV bs)) → bs.map (·.1) = wordRow l → (∀ x ∈ bs, RunAt H' x.2 x.1) → Q (.ref D) H') : tLc (iStr te) (gName i) tYes te' [i] σ H Q := by
  refine hte _ ⟨tx l, rfl, fun D hD => ?_⟩
  have sz : (tx l).cps.size = l.length := by simp [tx]
  refine lc_it (walk_str (z := tx l)) (fun j H' => ∃ bs : Rns, Same H H' ∧ H' D = some (.lst (runsV bs)) ∧ bs.map (·.1) = wordRow (l.take j) ∧ ∀ x ∈ bs, RunAt H' x.2 x.1) ⟨[], same_new hD, upd_same, rfl, fun x hx => by cases hx⟩ (fun _ _ _ _ => trivial) ?_ ?_
  · rintro j x _ H2 hj ⟨bs, sm, e, em, eb⟩ ⟨rfl, c, hc, rfl⟩
    have hc' : l[j]? = some c := by
      have e : (tx l).cps[j]? = l[j]? := by simp [tx]
      rw [← e]
      exact hc
    refine ⟨hw _, yes_keep ?_⟩
    refine he c _ _ fun p hp => ?_
    have k1 := same_new (o := .tup [.str (sg c), .int 1, .int 1]) hp
    have lb : bs.length ≤ 1000 := by
      have z := congrArg List.length em
      unfold wordRow at z
      rw [List.length_map, List.length_map, List.length_take] at z
      omega
    have np : p ≠ D := fun z => by
      rw [z] at hp
      rw [hp] at e
      cases e
    refine ⟨_, k1 _ _ e, ?_, bs ++ [((sg c, 1, some 1), p)], fun b o z => ?_, ?_, ?_, fun y hy => ?_⟩
    · unfold runsV
      rw [List.length_map]
      exact small1000 lb
    · rw [upd_ne (ne_of_none z hD)]
      exact k1 _ _ (sm _ _ z)
    · rw [upd_same]
      unfold runsV
      rw [List.map_append]
      rfl
    · rw [List.map_append, em, List.take_add_one, hc']
      unfold wordRow
      rw [List.map_append]
      rfl
    · have far : ∀ {b : Addr} {xs : List V}, upd H2 p (.tup [.str (sg c), .int 1, .int 1]) b = some (.tup xs) → upd (upd H2 p (.tup [.str (sg c), .int 1, .int 1])) D (.lst (runsV bs ++ [.ref p])) b = some (.tup xs) := fun {b xs} z => by
        rw [upd_ne]
        · exact z
        · intro zz
          rw [zz, k1 _ _ e] at z
          cases z
      rcases List.mem_append.mp hy with hy | hy
      · exact far (k1 _ _ (eb y hy))
      · rw [List.mem_singleton.mp hy]
        exact far upd_same
  · rintro H' ⟨bs, sm, e, em, eb⟩
    have ef : l.take (tx l).cps.size = l := List.take_of_length_le (by rw [sz]; exact Nat.le_refl _)
    rw [ef] at em
    exact hq D bs H' sm e em eb
/-- the words that are given are good -/
structure WdG (l : List Nat) : Prop where
  sub : ∀ n ∈ l, n ∈ alpha
  one : 1 ≤ l.length
  few : l.length ≤ 20
theorem WdG.short {K : PySem.W.Frag} {C : Addr} {H : Hp} {l : List Nat} (g : WdG l) : Short K C H (.str (tx l)) true := by
  have z := Short.txt (K := K) (C := C) (H := H) (l := l) (by have := g.few; omega)
  rw [List.all_eq_true.mpr fun n hn => decide_eq_true (g.sub n hn), decide_eq_true ⟨g.one, g.few⟩] at z
  exact z
theorem wordRow_ok {l : List Nat} {x : RunL} (h : x ∈ wordRow l) : RunOk x := by
  obtain ⟨n, _, rfl⟩ := List.mem_map.mp h
  exact ⟨by show 1 ≤ 1000; decide, fun m e => by cases e; show 1 ≤ 1; decide, by show pcL 1 (some 1) ≤ 500; decide⟩
abbrev wordsSc : Scope := { kind := .function, names := [(".0", .local), ("text", .local), ("tuple", .globalImplicit)], isGenerator := false, isCoroutine := false }
/-- a walk over a list or a tuple that a local holds -/
theorem seq_read {K : PySem.W.Frag} {i : Nat} {σ : L2.St} {H : Hp} {a : Addr} {xs : List V} {R : It → Hp → Prop} (hs : σ[i]? = some (some (.ref a))) (h : H a = some (.lst xs) ∨ H a = some (.tup xs))
    (q : ∀ (J : It) (G : Hp → Prop), Walk J xs.length G (YAt xs) → (∀ H', Same H H' → G H') → R J H) : iSeq K (tVar i) σ H R := by
  refine ⟨.ref a, hs, a, rfl, ?_⟩
  rcases h with e | e
  · exact .inl ⟨⟨_, SqL.of e⟩, q _ _ walk_list fun H' s => SqL.of (s _ _ e)⟩
  · exact .inr ⟨⟨_, SqT.of e⟩, q _ _ walk_tup fun H' s => SqT.of (s _ _ e)⟩
/-- what tuple(xs) asks -/
def rTupO (K : PySem.W.Frag) : List V → Hp → VK → Prop := fun xs H Q => ∃ p ys, xs = [.ref p] ∧ ((SqL K H p ys ∧ ∀ l, H l = none → Q (.ref l) (upd H l (.tup ys))) ∨ (SqT K H p ys ∧ Q (.ref p) H))
section
variable {P : Program} {w : World} {K : PySem.W.Frag} {mg : Str → Option Value} {base : Heap} {NC KC BK C : Addr}
def spWords (KC BK : Addr) : Sp := fun vs H Q E => ∃ (a : Addr) (ws : List (List Nat)), vs = [.ref a] ∧ (H a = some (.lst (wordsV ws)) ∨ H a = some (.tup (wordsV ws))) ∧ 1 ≤ ws.length ∧ ws.length ≤ 20 ∧ (∀ l ∈ ws, WdG l) ∧ Out KC BK H Q E (ws.map wordRow)
theorem wordsV_get {ws : List (List Nat)} {i : Nat} {x : V} (h : (wordsV ws)[i]? = some x) : ∃ l, ws[i]? = some l ∧ x = .str (tx l) := by
  unfold wordsV at h
  rw [List.getElem?_map] at h
  cases e : ws[i]? with
  | none => rw [e] at h; cases h
  | some l =>
    rw [e] at h
    exact ⟨l, rfl, (Option.some.inj h).symm⟩
set_option maxHeartbeats 20000000 in
theorem ok_words {f : Addr} {fd : FuncData} (F : FnP K "words" "Kind.words" s_Kindwords f fd) (N : Nms mg) (Co : Cons mg) (PB : Plain K mg "BadKind" BK) (M : CanKind P w K mg base NC KC BK) (R : Can P w K mg base CX0 "is_row" ["thing"] 1 (spRow K)) (S : Can P w K mg base CX0 "is_short_text" ["thing"] 2 (spShort K C)) :
    FnOk P w K mg base (L2N.CX P w) 8 f fd ["texts"] (spWords KC BK) := by
  obtain ⟨fM, fdM, MM, gM, bM, GM⟩ := M
  obtain ⟨fR, fdR, GR, gR, kR, bR⟩ := R
  obtain ⟨fS, fdS, GS, gS, kS, bS⟩ := S
  obtain ⟨tT, gT⟩ := Co.texts
  have nd := sc_Kindwords.nd
  refine F.ok sc_Kindwords (fun vs H Q E h => ?_) (fun cdv A outer s H vs Q E hr h => ?_)
  · obtain ⟨a, ws, rfl, _⟩ := h
    rfl
  · obtain ⟨a, ws, rfl, ha, l1, l20, good, out⟩ := h
    have tk := L2N.takes_of (X := cxOf (L2N.CX P w) P w K mg base ["texts", "text", "sign"] "Kind.words" (defScope s_Kindwords) f cdv A outer s H E) (E := E) rfl rfl rfl rfl
    refine ⟨_, pss_cons (ps_if (PW.pt (pw_or (pt_not (pt_val (pe_call GR (hr.mono (by decide)) (by rfl) gR kR bR .nil pass0 (pa_cons (pv 0) pa_nil)))) (pw_or1 (pt_not (pt_chain op_le op_le pe_int (pe_callB call_len_seq (by rfl) N.len PySem.boot_len (pa_cons (pv 0) pa_nil)) (pe_glob (v := .int 20) (by rfl) gT ⟨_, rfl⟩)))))) (pss_one (L2N.ps_raise rfl tk (pmk_plain PB rfl))) pss_nil)
      (pss_cons (ps_if (pt_not (pt_val (pe_callB (cr_all rfl) (by rfl) N.all (by decide +kernel) (pa_cons (pe_lc (own := [("text", 1)]) (g := gName 1) (tt := tYes) rfl nd (pi_seq (pv 0)) (blkOk_by (N := ["texts", "text", "sign"]) (sc := defScope s_Kindwords) (by decide +kernel)) (fun _ _ _ _ _ => pg_name (i := 1) nd rfl (Or.inl rfl)) (fun _ _ _ _ _ => pts_nil)
          (fun _ _ _ _ _ => pe_call GS (hr.mono (by decide)) (by rfl) gS kS bS .nil pass0 (pa_cons (pv 1) pa_nil))) pa_nil)))) (pss_one (L2N.ps_raise rfl tk (pmk_plain PB rfl))) pss_nil)
      (pss_one (ps_ret (pe_make MM GM hr (by rfl) gM bM .nil (L2N.passes_call tk (fun _ _ _ _ h => h)) (pa_cons (pe_lc (own := [("text", 1)]) (g := gName 1) (tt := tYes) rfl nd (pi_seq (pv 0)) (blkOk_by (N := ["texts", "text", "sign"]) (sc := defScope s_Kindwords) (by decide +kernel)) (fun _ _ _ _ _ => pg_name (i := 1) nd rfl (Or.inl rfl)) (fun _ _ _ _ _ => pts_nil)
          (fun _ _ _ _ _ => pe_callTy (T := "tuple") (r := rTupO K) call_tuple_of (by rfl) N.tuple (by decide +kernel) (pa_cons (pe_lc (own := [("sign", 2)]) (g := gName 2) (tt := tYes) rfl nd (pi_str (pv 1)) (blkOk_by (N := ["texts", "text", "sign"]) (sc := wordsSc) (by decide +kernel)) (fun _ _ _ _ _ => pg_name (i := 2) nd rfl (Or.inl rfl)) (fun _ _ _ _ _ => pts_nil)
            (fun _ _ _ _ _ => pe_tup (pa_cons (pv 2) (pa_cons pe_int (pa_cons pe_int pa_nil))))) pa_nil))) pa_nil))))), ?_⟩
    have asked : ∃ t b1 b2, TyX K H (.ref a) t ∧ PySem.W.kitOne K t (.type "list") = some b1 ∧ PySem.W.kitOne K t (.type "tuple") = some b2 ∧ (b1 || b2) = true := by
      rcases ha with e | e
      · exact ⟨_, true, false, .base (.lst e), kit_ty (by decide +kernel), kit_ty (by decide +kernel), rfl⟩
      · exact ⟨_, false, true, .base (.tup e), kit_ty (by decide +kernel), kit_ty (by decide +kernel), rfl⟩
    obtain ⟨t, b1, b2, ty, k1, k2, bb⟩ := asked
    refine ⟨_, rfl, .ref a, t, b1, b2, rfl, ty, k1, k2, fun H1 s1 => ⟨_, rfl, ?_⟩⟩
    rw [bb]
    refine iteF ?_
    have ha1 : H1 a = some (.lst (wordsV ws)) ∨ H1 a = some (.tup (wordsV ws)) := ha.imp (s1 _ _) (s1 _ _)
    have lw : (wordsV ws).length = ws.length := List.length_map _
    refine ⟨_, rfl, a, wordsV ws, rfl, ha1.imp SqL.of SqT.of, _, _, rfl, rfl, _, rfl, ?_⟩
    refine (if_pos (decide_eq_true (by omega))).mpr ?_
    refine ⟨_, _, rfl, rfl, _, rfl, ?_⟩
    have d : decide ((((wordsV ws).length : Nat) : Int) ≤ 20) = true := decide_eq_true (by omega)
    rw [d]
    refine iteF ?_
    dsimp only
    dsimp only [tNext, tSeq, tIfS, tNot, tB, tCB, tCons, tNil, tLc]
    refine seq_read rfl ha1 ?_
    intro J G wk gs D hD
    refine lc_it wk (fun i H' => H' D = some (.lst ((List.replicate i true).map V.bl)) ∧ Same H1 H') ⟨upd_same, same_new hD⟩ (fun i H' _ h => gs _ h.2) ?_ ?_
    · rintro i x _ H2 hi ⟨e2, sm⟩ ⟨rfl, hx⟩
      obtain ⟨l, hl, rfl⟩ := wordsV_get hx
      refine ⟨rfl, yes_keep ?_⟩
      refine ⟨_, rfl, _, true, rfl, (good l (List.mem_of_getElem? hl)).short, fun H3 s3 => ?_⟩
      refine ⟨_, s3 _ _ e2, ?_, ?_, fun b o z => ?_⟩
      · rw [List.length_map, List.length_replicate]
        exact small1000 (by omega)
      · rw [upd_same, List.replicate_succ', List.map_append]
        rfl
      · rw [upd_ne (ne_of_none z hD)]
        exact s3 _ _ (sm _ _ z)
    · rintro H2 ⟨e2, sm⟩
      refine ⟨D, _, rfl, SqL.of e2, _, rfl, ?_⟩
      have all : (List.replicate (wordsV ws).length true).all id = true := by simp
      rw [all]
      refine iteF ?_
      have s12 := s1.trans sm
      dsimp only [tNext, tSeq, tRet, tMake, tCons, tNil, tLc]
      refine seq_read rfl (ha.imp (s12 _ _) (s12 _ _)) ?_
      intro J G wk gs D2 hD2
      refine lc_it wk (fun i H' => ∃ acc : Rws, H' D2 = some (.lst (rowsV acc)) ∧ acc.map (·.1) = (ws.take i).map wordRow ∧ RowsAt H' acc ∧ Same H2 H') ⟨[], upd_same, rfl, (fun x hx => by cases hx), same_new hD2⟩ (fun i H' _ h => by
        obtain ⟨_, _, _, _, sm⟩ := h
        exact gs _ sm) ?_ ?_
      · rintro i x _ H3 hi ⟨acc, e, em, rat, sm3⟩ ⟨rfl, hx⟩
        obtain ⟨l, hl, rfl⟩ := wordsV_get hx
        have gl := good l (List.mem_of_getElem? hl)
        refine ⟨rfl, yes_keep ?_⟩
        refine cb_one ?_
        refine lc_wd (l := l) (by have := gl.few; omega) (fun Q' q => ⟨_, rfl, q⟩) (fun _ => rfl) (fun n H4 Q' h => ⟨_, rfl, line_small (by show 3 ≤ 16777216; decide), fun p hp => h p hp⟩) fun D3 bs H4 s4 e4 em4 eb4 => ?_
        refine ⟨D3, runsV bs, rfl, .inl ⟨SqL.of e4, fun u hu => ?_⟩⟩
        have k1 := same_new (o := .tup (runsV bs)) hu
        have eD := k1 _ _ (s4 _ _ e)
        have row : NkV (upd H4 u (.tup (runsV bs))) (rowK (wordRow l)) (.ref u) := by
          have z := row_is (bs := bs) (upd_same (H := H4) (a := u) (o := .tup (runsV bs))) fun x hx => k1 _ _ (eb4 x hx)
          rw [em4] at z
          exact z
        have la : acc.length = i := by
          have z := congrArg List.length em
          rw [List.length_map, List.length_map, List.length_take] at z
          omega
        have tp := upd_tups (u := .lst (rowsV acc ++ [.ref u])) eD
        refine ⟨_, eD, ?_, acc ++ [(wordRow l, u)], ?_, ?_, fun y hy => ?_, fun c o z => ?_⟩
        · unfold rowsV
          rw [List.length_map]
          exact small1000 (by omega)
        · rw [upd_same]
          unfold rowsV
          rw [List.map_append]
          rfl
        · rw [List.map_append, em, List.take_add_one, hl, List.map_append]
          rfl
        · rcases List.mem_append.mp hy with hy | hy
          · exact nkT tp _ _ (((rat.same s4).same k1) y hy)
          · rw [List.mem_singleton.mp hy]
            exact nkT tp _ _ row
        · rw [upd_ne (ne_of_none z hD2)]
          exact k1 _ _ (s4 _ _ (sm3 _ _ z))
      · rintro H3 ⟨acc, e, em, rat, sm3⟩
        have ef : ws.take (wordsV ws).length = ws := List.take_of_length_le (by rw [lw]; exact Nat.le_refl _)
        rw [ef] at em
        have la : acc.length = ws.length := by
          have z := congrArg List.length em
          rw [List.length_map, List.length_map] at z
          exact z
        refine make_kind (.inl e) rat (by omega) (fun x hx r hr => ?_) (by rw [em]; exact out.same (s12.trans sm3))
        have mx : x.1 ∈ ws.map wordRow := by
          rw [← em]
          exact List.mem_map.mpr ⟨x, hx, rfl⟩
        obtain ⟨l, _, el⟩ := List.mem_map.mp mx
        rw [← el] at hr
        exact wordRow_ok hr
end
end K04

set_option autoImplicit false
set_option maxErrors 4
namespace K04
open PySem PySem.Spec PyProof.Rows L2 Tl
/-! ### what the law tells of an operator -/
/-- one of two readings -/
theorem op_orS {X : Cx} {op : Value → Value → Sem Value} {r1 r2 : L2.St → R2} (h1 : OpS X op r1) (h2 : OpS X op r2) : OpS X op (fun τ x y H Q => r1 τ x y H Q ∨ r2 τ x y H Q) := fun pn t τ G a b va vb W I ra rb h => h.elim (h1 pn t τ G a b va vb W I ra rb) (h2 pn t τ G a b va vb W I ra rb)
theorem pe_to {X : Cx} {e : Expr} {t : TE} (t' : TE) (h : PE X e t) (eq : t = t' := by rfl) : PE X e t' := eq ▸ h
section
variable {P : Program} {w : World} {K : PySem.W.Frag} {mg : Str → Option Value} {base : Heap} {NC KC BK C : Addr}
theorem ok_plus {f fA : Addr} {fd fdA : FuncData} (F : FnP K "_law_plus" "_law_plus" s_l_plus f fd) (hc : PySem.W.selfFirst K KC = true) (MA : OpC K KC (PySem.dunder (Operator.Add).info.2) fA) (GA : FnOk P w K mg base (L2N.CX P w) 8 fA fdA ["self", "other"] (spTwo KC BK prodL)) (bA : Binds K fdA ["self", "other"] []) :
    FnOk P w K mg base (L2N.CX P w) 9 f fd ["_law_one", "_law_other"] (spTwo KC BK prodL) := by
  refine F.ok sc_l_plus (fun vs H Q E h => ?_) (fun cdv A outer s H vs Q E hr h => ?_)
  · obtain ⟨a, b, ra, rb, rfl, _⟩ := h
    rfl
  · obtain ⟨a, b, ra, rb, rfl, ka, kb, rest⟩ := h
    have tk := L2N.takes_of (X := cxOf (L2N.CX P w) P w K mg base ["_law_one", "_law_other"] "_law_plus" (defScope s_l_plus) f cdv A outer s H E) (E := E) rfl rfl rfl rfl
    refine ⟨_, pss_one (ps_ret (pe_opS (op_binE (op := .Add) hc MA GA hr bA (L2N.passAt tk)) (pv 0) (pv 1))), ?_⟩
    obtain ⟨dxa, ta, na, rsa, a1, a2, a3, a4⟩ := id ka
    obtain ⟨dxb, tb, nb, rsb, b1, b2, b3, b4⟩ := id kb
    exact ⟨_, rfl, _, rfl, a, dxa, _, b, dxb, _, rfl, rfl, a1, b1, a, b, ra, rb, rfl, ka, kb, rest⟩
theorem ok_either {f fA : Addr} {fd fdA : FuncData} (F : FnP K "_law_either" "_law_either" s_l_either f fd) (hc : PySem.W.selfFirst K KC = true) (MA : OpC K KC (PySem.dunder (Operator.BitOr).info.2) fA) (GA : FnOk P w K mg base (L2N.CX P w) 8 fA fdA ["self", "other"] (spTwo KC BK orL)) (bA : Binds K fdA ["self", "other"] []) :
    FnOk P w K mg base (L2N.CX P w) 9 f fd ["_law_one", "_law_other"] (spTwo KC BK orL) := by
  refine F.ok sc_l_either (fun vs H Q E h => ?_) (fun cdv A outer s H vs Q E hr h => ?_)
  · obtain ⟨a, b, ra, rb, rfl, _⟩ := h
    rfl
  · obtain ⟨a, b, ra, rb, rfl, ka, kb, rest⟩ := h
    have tk := L2N.takes_of (X := cxOf (L2N.CX P w) P w K mg base ["_law_one", "_law_other"] "_law_either" (defScope s_l_either) f cdv A outer s H E) (E := E) rfl rfl rfl rfl
    refine ⟨_, pss_one (ps_ret (pe_opS (op_binE (op := .BitOr) hc MA GA hr bA (L2N.passAt tk)) (pv 0) (pv 1))), ?_⟩
    obtain ⟨dxa, ta, na, rsa, a1, a2, a3, a4⟩ := id ka
    obtain ⟨dxb, tb, nb, rsb, b1, b2, b3, b4⟩ := id kb
    exact ⟨_, rfl, _, rfl, a, dxa, _, b, dxb, _, rfl, rfl, a1, b1, a, b, ra, rb, rfl, ka, kb, rest⟩
def spTimesK (KC BK : Addr) : Sp := fun vs H Q E => ∃ (a : Addr) (t : Nat), (vs = [.ref a, .int (t : Nat)] ∨ vs = [.int (t : Nat), .ref a]) ∧ spMulK KC BK [.ref a, .int (t : Nat)] H Q E
theorem ok_timesK {f fM gM : Addr} {fd fdM fdR : FuncData} (F : FnP K "_law_times" "_law_times" s_l_times f fd) (GM : FnOk P w K mg base (L2N.CX P w) 9 fM fdM ["self", "other"] (spMulK KC BK)) (bM : Binds K fdM ["self", "other"] []) (GR : FnOk P w K mg base (L2N.CX P w) 10 gM fdR ["self", "other"] (spMulK KC BK)) (bR : Binds K fdR ["self", "other"] []) (M : MulC K KC fM gM) :
    FnOk P w K mg base (L2N.CX P w) 11 f fd ["_law_one", "_law_other"] (spTimesK KC BK) := by
  refine F.ok sc_l_times (fun vs H Q E h => ?_) (fun cdv A outer s H vs Q E hr h => ?_)
  · obtain ⟨a, t, rfl | rfl, _⟩ := h
    · rfl
    · rfl
  · obtain ⟨a, t, hv, h⟩ := h
    have tk := L2N.takes_of (X := cxOf (L2N.CX P w) P w K mg base ["_law_one", "_law_other"] "_law_times" (defScope s_l_times) f cdv A outer s H E) (E := E) rfl rfl rfl rfl
    refine ⟨_, pss_one (ps_ret (pe_opS (op_orS (op_mulL M GM (hr.mono (by decide)) bM (L2N.passAt tk)) (op_mulR M GR hr bR (L2N.passAt tk))) (pv 0) (pv 1))), ?_⟩
    obtain ⟨a', t', ra, e, t1, t9, ka, rest⟩ := id h
    cases e
    obtain ⟨dxa, ta, na, rsa, a1, a2, a3, a4⟩ := id ka
    rcases hv with rfl | rfl
    · exact ⟨_, rfl, _, rfl, .inl ⟨a, dxa, _, "int", rfl, a1, .int _, h⟩⟩
    · exact ⟨_, rfl, _, rfl, .inr ⟨a, dxa, _, "int", rfl, a1, .int _, h⟩⟩
def spGiven (KC BK : Addr) : Sp := fun vs H Q E => ∃ x : V, vs = [x, .non] ∧ spWords KC BK [x] H Q E
theorem ok_given {f fW : Addr} {fd fdW : FuncData} (F : FnP K "_law_given" "_law_given" s_l_given f fd) (gK : mg "Kind" = some (.ref KC)) (SW : Stat K KC "words" fW) (GW : FnOk P w K mg base (L2N.CX P w) 8 fW fdW ["texts"] (spWords KC BK)) (bW : Binds K fdW ["texts"] []) :
    FnOk P w K mg base (L2N.CX P w) 9 f fd ["_law_one", "_law_other"] (spGiven KC BK) := by
  refine F.ok sc_l_given (fun vs H Q E h => ?_) (fun cdv A outer s H vs Q E hr h => ?_)
  · obtain ⟨x, rfl, _⟩ := h
    rfl
  · obtain ⟨x, rfl, h⟩ := h
    have tk := L2N.takes_of (X := cxOf (L2N.CX P w) P w K mg base ["_law_one", "_law_other"] "_law_given" (defScope s_l_given) f cdv A outer s H E) (E := E) rfl rfl rfl rfl
    refine ⟨_, pss_one (ps_ret (pe_stat SW GW hr (by rfl) gK bW .nil (L2N.passAt tk) (pa_cons (pv 0) pa_nil))), ?_⟩
    exact ⟨_, rfl, h⟩
/-- what is told: the kind of rows, or that it was refused -/
def ToldAt (KC : Addr) (H : Hp) (t : Addr) (rows : List RowL) : Prop := (bigL rows = true ∧ H t = some (.tup [.str "refused", .non])) ∨ (bigL rows = false ∧ ∃ k, H t = some (.tup [.str "kind", .ref k]) ∧ KindL KC H k rows)
theorem ToldAt.same {H H' : Hp} {t : Addr} {rows : List RowL} (h : ToldAt KC H t rows) (s : Same H H') : ToldAt KC H' t rows := by
  rcases h with ⟨a, b⟩ | ⟨a, k, b, c⟩
  · exact .inl ⟨a, s _ _ b⟩
  · exact .inr ⟨a, k, s _ _ b, c.same s⟩
def spTold (P : Program) (w : World) (K : PySem.W.Frag) (mg : Str → Option Value) (base : Heap) (KC BK : Addr) : Sp := fun vs H Q _ => ∃ (fm : Addr) (x y : V) (fd : FuncData) (ps : List Str) (k : Nat) (sp : Sp) (rows : List RowL), vs = [.ref fm, x, y] ∧ PySem.W.keepIn K (.ref fm) = true ∧ k ≤ 11 ∧ FnOk P w K mg base (L2N.CX P w) k fm fd ps sp ∧ Binds K fd ps [] ∧
  (∀ (Q' : VK) (E' : XK), (bigL rows = true → Raised H E' BK) → (bigL rows = false → ∀ (k : Addr) (H' : Hp), Same H H' → KindL KC H' k rows → Q' (.ref k) H') → sp [x, y] H Q' E') ∧ ∀ (t : Addr) (H' : Hp), Same H H' → ToldAt KC H' t rows → Q (.ref t) H'
theorem ok_told {f : Addr} {fd : FuncData} (F : FnP K "_law_told" "_law_told" s_l_told f fd) (gB : mg "BadKind" = some (.ref BK)) (mB : PySem.W.exmOne K (.ref BK) (.ref BK) = some true) : FnOk P w K mg base CX0 12 f fd ["_law_made", "_law_one", "_law_other"] (spTold P w K mg base KC BK) := by
  have nd := sc_l_told.nd
  refine F.ok sc_l_told (fun vs H Q E h => ?_) (fun cdv A outer s H vs Q E hr h => ?_)
  · obtain ⟨fm, x, y, fd, ps, k, sp, rows, rfl, _⟩ := h
    rfl
  · obtain ⟨fm, x, y, fm', ps, k, sp, rows, rfl, kp, hk, GM, bM, h, q⟩ := h
    refine ⟨_, pss_one (ps_try_bare (c := .ref BK) rfl rfl nothingOut ⟨rfl, by decide, .inl gB⟩ (fun W pn xe tk _ => pss_one (ps_ret (pe_tup (pa_cons pe_str (pa_cons (pe_to (tHeld P w K mg base (L2N.CX P w) 11 0 (WE W) (tCons (tVar 1) (tCons (tVar 2) tNil))) (pe_held (i := 0) hr (L2N.passAt tk) rfl (Or.inl rfl) (pa_cons (pv 1) (pa_cons (pv 2) pa_nil)))) pa_nil)))))
      (fun a oe cls d pn z fz => pss_one (ps_ret (pe_tup (pa_cons pe_str (pa_cons pe_non pa_nil)))))), ?_⟩
    refine ⟨fm, rfl, kp, _, rfl, _, rfl, fm', ps, k, sp, hk, GM, bM, h _ _ (fun big H1 s1 => ?_) fun small kk H1 s1 kl => ?_⟩
    · refine ⟨true, mB, (fun z => by cases z), fun _ p np => ?_⟩
      refine ⟨line_small (by show 2 ≤ 16777216; decide), fun t ht => ?_⟩
      exact q t _ (s1.trans (same_new ht)) (.inl ⟨big, upd_same⟩)
    · refine ⟨line_small (by show 2 ≤ 16777216; decide), fun t ht => ?_⟩
      exact q t _ (s1.trans (same_new ht)) (.inr ⟨small, kk, upd_same, kl.same (same_new ht)⟩)
def spRight (KC : Addr) : Sp := fun vs H Q _ => ∃ (t R : Addr) (ks : Rws), vs = [.ref t, .ref R] ∧ RL H R ks ∧ 1 ≤ ks.length ∧ ToldAt KC H t (ks.map (·.1)) ∧ ∀ H', Same H H' → Q (.bl true) H'
set_option maxHeartbeats 20000000 in
theorem ok_right {f fA : Addr} {fd fdA : FuncData} (F : FnP K "_law_right" "_law_right" s_l_right f fd) (N : Nms mg) (KK : KindC K KC) (gK : mg "Kind" = some (.ref KC)) (Se : Sees K KC) (own : PySem.W.kitOne K (.ref KC) (.ref KC) = some true) (C1 : Can P w K mg base CX0 "_law_fits" ["_law_rows_here"] 1 spFits)
    (MA : Meth K KC "alternatives" fA) (GA : FnOk P w K mg base CX0 1 fA fdA ["self"] (spAlts KC)) (bA : Binds K fdA ["self"] []) : FnOk P w K mg base CX0 2 f fd ["_law_told_here", "_law_rows_here"] (spRight KC) := by
  obtain ⟨fC, fdC, GC, gC, kC, bC⟩ := C1
  have nd := sc_l_right.nd
  refine F.ok sc_l_right (fun vs H Q E h => ?_) (fun cdv A outer s H vs Q E hr h => ?_)
  · obtain ⟨t, R, ks, rfl, _⟩ := h
    rfl
  · obtain ⟨t, R, ks, rfl, rl, l1, told, q⟩ := h
    refine ⟨_, PSs.nox (pss_cons (ps_if (pt_not (pt_val (pe_call GC hr (by rfl) gC kC bC .nil pass0 (pa_cons (pv 1) pa_nil)))) (pss_one (ps_ret (pe_cmpR op_eq (pe_ix (r := rIxTup K) ix_tup (pv 0) pe_int (fun _ _ => rfl)) pe_str (nomark _)))) pss_nil)
      (pss_cons (ps_if (PW.pt (pw_or (pt_cmpR op_ne (pe_ix (r := rIxTup K) ix_tup (pv 0) pe_int (fun _ _ => rfl)) pe_str (nomark _)) (pw_or1 (pt_not (pt_val (pe_callB call_isi (by rfl) N.isi (by decide +kernel) (pa_cons (pe_ix (r := rIxTup K) ix_tup (pv 0) pe_int (fun _ _ => rfl)) (pa_cons (pe_glob (v := .ref KC) (by rfl) gK rfl) pa_nil)))))))) (pss_one (ps_ret pe_bl)) pss_nil)
      (pss_cons (ps_set (i := 2) nd rfl (.inl rfl) (pe_meth0 (pe_ix (r := rIxTup K) ix_tup (pv 0) pe_int (fun _ _ => rfl)) KK.cl MA GA hr bA .nil pass0))
      (pss_one (ps_ret (pe_and (pe_callB call_isi (by rfl) N.isi (by decide +kernel) (pa_cons (pv 2) (pa_cons (pe_bltn (v := .ty "tuple") (by rfl) N.tuple (by decide +kernel) rfl) pa_nil))) (pe_and (pe_cmpR (r := rEqD K) (op_eqD hr.units) (pv 2) (pe_callTy (T := "tuple") (r := rTupO K) call_tuple_of (by rfl) N.tuple (by decide +kernel) (pa_cons (pv 1) pa_nil)) (nomark _))
        (pe_one (pe_cmpR (r := rEqD K) (op_eqD hr.units) (pe_meth0 (pe_ix (r := rIxTup K) ix_tup (pv 0) pe_int (fun _ _ => rfl)) KK.cl MA GA hr bA .nil pass0) (pv 2) (nomark _)))))))))), ?_⟩
    refine ⟨_, rfl, R, ks, rfl, rl, l1, fun H1 s1 => ⟨_, rfl, ?_⟩⟩
    rcases told.same s1 with ⟨big, ht⟩ | ⟨small, k, ht, kl⟩
    · rw [big]
      refine iteT ?_
      refine ⟨_, rfl, t, _, 0, _, rfl, rfl, SqT.of ht, rfl, rfl, ?_⟩
      rw [decide_eq_true rfl]
      exact q H1 s1
    · rw [small]
      refine iteF ?_
      obtain ⟨dx, ta, na, rsa, a1, a2, a3, a4⟩ := id kl
      refine ⟨_, rfl, t, _, 0, _, rfl, rfl, SqT.of ht, rfl, rfl, _, rfl, ?_⟩
      refine (if_neg (by simp)).mpr ?_
      refine ⟨_, rfl, t, _, 1, _, rfl, rfl, SqT.of ht, rfl, _, .ref KC, _, _, true, rfl, .own KC, Se.ty KK.cl a1, own, _, rfl, iteF ?_⟩
      refine ⟨_, rfl, t, _, 1, _, rfl, rfl, SqT.of ht, rfl, k, dx, _, rfl, a1, ?_, k, _, rfl, kl, fun u rs h2 h3 h4 => ?_⟩
      · exact (lk_ne (by decide +kernel)).trans ((lk_ne (by decide +kernel)).trans lk_nil)
      refine name_go ?_
      dsimp only
      refine ⟨_, rfl, _, _, _, _, true, rfl, .ty "tuple", .base (.tup h2), kit_ty (by decide +kernel), true, rfl, iteT ?_⟩
      have er : rs.map (·.1) = ks.map (·.1) := h3
      have rl1 := rl.same s1
      refine ⟨_, rfl, _, rfl, R, rowsV ks, rfl, .inl ⟨SqL.of rl1.at_, fun v hv => ?_⟩⟩
      have k1 := same_new (o := .tup (rowsV ks)) hv
      have txA : ∀ r ∈ rs.map (·.1), TxR r := fun r hr => by
        rw [er] at hr
        obtain ⟨y, hy, rfl⟩ := List.mem_map.mp hr
        exact rl.tx y hy
      have txB : ∀ r ∈ ks.map (·.1), TxR r := fun r hr => by
        obtain ⟨y, hy, rfl⟩ := List.mem_map.mp hr
        exact rl.tx y hy
      refine ⟨rowsD (rs.map (·.1)), rowsD (ks.map (·.1)), .tup (SqT.of (k1 _ _ h2)) (rows_dp (h4.same k1)), .tup (SqT.of upd_same) (rows_dp (rl1.ok.same k1)), shaped_of (rowsD_ok txA) (by decide), shaped_of (rowsD_ok txB) (by decide), ?_⟩
      rw [eqv_rows, decide_eq_true er]
      refine ⟨true, rfl, iteT ?_⟩
      refine ⟨_, rfl, t, _, 1, _, rfl, rfl, SqT.of (k1 _ _ ht), rfl, k, dx, _, rfl, k1 _ _ a1, ?_, k, _, rfl, kl.same k1, fun u2 rs2 j2 j3 j4 => ?_⟩
      · exact (lk_ne (by decide +kernel)).trans ((lk_ne (by decide +kernel)).trans lk_nil)
      have er2 : rs2.map (·.1) = rs.map (·.1) := j3.trans er.symm
      refine ⟨_, rfl, rowsD (rs2.map (·.1)), rowsD (rs.map (·.1)), .tup (SqT.of j2) (rows_dp j4), .tup (SqT.of (k1 _ _ h2)) (rows_dp (h4.same k1)), shaped_of (rowsD_ok (by rw [er2]; exact txA)) (by decide), shaped_of (rowsD_ok txA) (by decide), ?_⟩
      rw [eqv_rows, decide_eq_true er2]
      exact q _ (s1.trans k1)
end
end K04

set_option autoImplicit false
set_option maxErrors 4
namespace K04
open PySem PySem.Spec PyProof.Rows L2 Tl
/-! ### kept alternatives, many words -/
theorem put_mem {acc : List RowL} {x y : RowL} (h : y ∈ acc) : y ∈ putL acc x := by
  unfold putL
  split
  · exact h
  · exact List.mem_append.mpr (.inl h)
theorem put_self (acc : List RowL) (x : RowL) : x ∈ putL acc x := by
  unfold putL
  split
  · assumption
  · simp
theorem fold_mem {ys : List RowL} : ∀ {acc : List RowL} {y : RowL}, y ∈ acc ∨ y ∈ ys → y ∈ ys.foldl putL acc := by
  induction ys with
  | nil => exact fun h => h.elim id fun z => by cases z
  | cons x ys ih =>
    intro acc y h
    refine ih ?_
    rcases h with h | h
    · exact .inl (put_mem h)
    · rcases List.mem_cons.mp h with rfl | h
      · exact .inl (put_self _ _)
      · exact .inr h
theorem put_old {acc : List RowL} {x : RowL} (h : x ∈ acc) : putL acc x = acc := by
  unfold putL
  rw [if_pos h]
theorem fold_old {ys acc : List RowL} (h : ∀ y ∈ ys, y ∈ acc) : ys.foldl putL acc = acc := by
  induction ys with
  | nil => rfl
  | cons x ys ih =>
    rw [List.foldl_cons, put_old (h x List.mem_cons_self)]
    exact ih fun y hy => h y (List.mem_cons_of_mem _ hy)
theorem fold_fold (ys : List RowL) : ∀ pre acc : List RowL, (ys.foldl putL pre).foldl putL acc = ys.foldl putL (pre.foldl putL acc) := by
  induction ys with
  | nil => exact fun _ _ => rfl
  | cons x ys ih =>
    intro pre acc
    rw [List.foldl_cons, ih, List.foldl_cons]
    congr 1
    by_cases h : x ∈ pre
    · rw [put_old h, put_old (fold_mem (.inr h))]
    · unfold putL
      rw [if_neg h, List.foldl_append]
      rfl
theorem fold_once (ys acc : List RowL) : (onceL ys).foldl putL acc = ys.foldl putL acc := fold_fold ys [] acc
theorem once_app (a b : List RowL) : onceL (a ++ b) = b.foldl putL (onceL a) := List.foldl_append
theorem once_or (a b : List RowL) : onceL (orL (onceL a) (onceL b)) = onceL (a ++ b) := by
  unfold orL
  rw [once_app, onceL_idem, fold_once, once_app]
theorem once_twice (a : List RowL) : onceL (orL (onceL a) (onceL a)) = onceL a := by
  rw [once_or, once_app]
  exact fold_old fun y hy => fold_mem (.inr hy)
/-- the words of three signs -/
def manyL (ls : List Nat) (n : Nat) : List (List Nat) := (List.range n).map fun k => [ls.getD (k % 3) 0, ls.getD (k / 3 % 3) 0, ls.getD (k / 9 % 3) 0]
theorem getD_inj {ls : List Nat} (nd : ls.Nodup) {i j : Nat} (hi : i < ls.length) (hj : j < ls.length) (h : ls.getD i 0 = ls.getD j 0) : i = j := by
  rw [List.getD_eq_getElem?_getD, List.getD_eq_getElem?_getD, List.getElem?_eq_getElem hi, List.getElem?_eq_getElem hj] at h
  have h : ls[i] = ls[j] := h
  rcases Nat.lt_trichotomy i j with l | e | l
  · exact absurd h (List.pairwise_iff_getElem.mp nd i j hi hj l)
  · exact e
  · exact absurd h.symm (List.pairwise_iff_getElem.mp nd j i hj hi l)
theorem wordRow_inj {a b : List Nat} (h : wordRow a = wordRow b) : a = b := by
  unfold wordRow at h
  induction a generalizing b with
  | nil =>
    cases b with
    | nil => rfl
    | cons y b => cases h
  | cons x a ih =>
    cases b with
    | nil => cases h
    | cons y b =>
      rw [List.map_cons, List.map_cons] at h
      injection h with h1 h2
      have h3 : sg x = sg y := congrArg (fun z : RunL => z.1) h1
      rw [sg_inj h3, ih h2]
theorem many_nd {ls : List Nat} (len : ls.length = 3) (nd : ls.Nodup) (n : Nat) (hn : n ≤ 27) : ((manyL ls n).map wordRow).Nodup := by
  unfold manyL List.Nodup
  rw [List.pairwise_map, List.pairwise_map]
  refine List.Pairwise.imp_of_mem ?_ List.nodup_range
  intro i j hi hj ne e
  have e := wordRow_inj e
  have hi := List.mem_range.mp hi
  have hj := List.mem_range.mp hj
  injection e with e1 e
  injection e with e2 e
  injection e with e3 _
  have a := getD_inj nd (by omega) (by omega) e1
  have b := getD_inj nd (by omega) (by omega) e2
  have c := getD_inj nd (by omega) (by omega) e3
  exact ne (by omega)
theorem many_len (ls : List Nat) (n : Nat) : (manyL ls n).length = n := by
  unfold manyL
  rw [List.length_map, List.length_range]
theorem many_take (ls : List Nat) {n m : Nat} (h : m ≤ n) : (manyL ls n).take m = manyL ls m := by
  unfold manyL
  rw [← List.map_take, List.take_range, Nat.min_eq_left h]
theorem many_good {ls : List Nat} (len : ls.length = 3) (sub : ∀ n ∈ ls, n ∈ alpha) (n : Nat) : ∀ l ∈ manyL ls n, WdG l := by
  intro l hl
  unfold manyL at hl
  obtain ⟨k, hk, rfl⟩ := List.mem_map.mp hl
  have m : ∀ i, i < 3 → ls.getD i 0 ∈ alpha := fun i hi => by
    rw [List.getD_eq_getElem?_getD, List.getElem?_eq_getElem (by omega)]
    exact sub _ (List.getElem_mem _)
  refine ⟨fun n hn => ?_, by show 1 ≤ 3; decide, by show 3 ≤ 20; decide⟩
  simp only [List.mem_cons, List.not_mem_nil, or_false] at hn
  rcases hn with rfl | rfl | rfl
  · exact m _ (Nat.mod_lt _ (by decide))
  · exact m _ (Nat.mod_lt _ (by decide))
  · exact m _ (Nat.mod_lt _ (by decide))
theorem many_len3 {ls : List Nat} {n : Nat} : ∀ l ∈ manyL ls n, l.length = 3 := by
  intro l hl
  unfold manyL at hl
  obtain ⟨k, hk, rfl⟩ := List.mem_map.mp hl
  rfl
/-- few words of three signs are a kind -/
theorem fine_words {ws : List (List Nat)} (l1 : 1 ≤ ws.length) (l20 : ws.length ≤ 20) (l3 : ∀ l ∈ ws, l.length = 3) : Fine (ws.map wordRow) := by
  refine ⟨?_, fun z => ?_, fun r m => ?_⟩
  · unfold bigL
    rw [Bool.or_eq_false_iff, Bool.or_eq_false_iff]
    refine ⟨⟨decide_eq_false (by rw [List.length_map]; omega), List.any_eq_false.mpr fun r m => ?_⟩, decide_eq_false ?_⟩
    · obtain ⟨l, hl, rfl⟩ := List.mem_map.mp m
      have := l3 l hl
      unfold wordRow
      simp
      omega
    · have key : ∀ vs : List (List Nat), (∀ l ∈ vs, l.length = 3) → ((vs.map wordRow).flatMap placesR).sum ≤ vs.length * 3 := by
        intro vs
        induction vs with
        | nil => intro _; exact Nat.le_refl _
        | cons v vs ih =>
          intro h
          rw [List.map_cons, List.flatMap_cons, List.sum_append, List.length_cons, Nat.succ_mul]
          have a := ih fun l hl => h l (List.mem_cons_of_mem _ hl)
          have b : (placesR (wordRow v)).sum ≤ 3 := by
            have e := h v List.mem_cons_self
            have z := sum_le (xs := placesR (wordRow v)) (n := 1) fun x hx => by
              unfold placesR at hx
              obtain ⟨y, hy, rfl⟩ := List.mem_map.mp hx
              unfold wordRow at hy
              obtain ⟨n, _, rfl⟩ := List.mem_map.mp hy
              exact Nat.le_refl _
            have e2 : (placesR (wordRow v)).length = 3 := by
              unfold placesR wordRow
              rw [List.length_map, List.length_map, e]
            omega
          omega
      have := key ws l3
      omega
  · have z := congrArg List.length z
    rw [List.length_map] at z
    simp at z
    rw [z] at l1
    cases l1
  · obtain ⟨l, hl, rfl⟩ := List.mem_map.mp m
    refine ⟨fun z => ?_, fun x hx => wordRow_ok hx⟩
    have z := congrArg List.length z
    unfold wordRow at z
    rw [List.length_map, l3 l hl] at z
    cases z
theorem wordRow_tx {l : List Nat} (h : ∀ n ∈ l, n ∈ alpha) : TxR (wordRow l) := by
  intro x hx
  obtain ⟨n, hn, rfl⟩ := List.mem_map.mp hx
  exact tx_ok (l := [n]) fun m hm => by
    rw [List.mem_singleton.mp hm]
    exact h n hn
theorem wordRow_ne {l : List Nat} (h : 1 ≤ l.length) : wordRow l ≠ [] := fun z => by
  have z := congrArg List.length z
  unfold wordRow at z
  rw [List.length_map] at z
  simp at z
  rw [z] at h
  cases h
end K04

set_option autoImplicit false
set_option maxErrors 4
namespace K04
open PySem PySem.Spec PyProof.Rows L2 Tl
/-! ### drawn words -/
section
variable {P : Program} {w : World} {K : PySem.W.Frag} {mg : Str → Option Value} {base : Heap} {NC KC BK C : Addr}
def spWordRow : Sp := fun vs H Q _ => ∃ (b c p : Addr) (ls : List Nat), vs = [.ref b, .ref p] ∧ Bag H b c ∧ H p = some (.lst (lettersV ls)) ∧ p ≠ b ∧ p ≠ c ∧ ls.length = 3 ∧ (∀ n ∈ ls, n ∈ alpha) ∧
  ∀ R (ws : List (List Nat)) H', Bag H' b c → Kept b c H H' → H R = none → R ≠ b → R ≠ c → H' R = some (.lst (wordsV ws)) → 1 ≤ ws.length → ws.length ≤ 20 → (∀ l ∈ ws, WdG l) → Q (.ref R) H'
set_option maxHeartbeats 20000000 in
theorem ok_word_row {f : Addr} {fd : FuncData} (F : FnP K "_law_word_row" "_law_word_row" s_l_word_row f fd) (N : Nms mg) (D : Can P w K mg base CX0 "_law_draw" ["_law_bag_here", "_law_limit"] 1 spDraw) : FnOk P w K mg base CX0 2 f fd ["_law_bag_here", "_law_letters_here"] spWordRow := by
  obtain ⟨fD, fdD, GD, gD, kD, bD⟩ := D
  have nd := sc_l_word_row.nd
  refine F.ok sc_l_word_row (fun vs H Q E h => ?_) (fun cdv A outer s H vs Q E hr h => ?_)
  · obtain ⟨b, c, p, ls, rfl, _⟩ := h
    rfl
  · obtain ⟨b, c, p, ls, rfl, B, hp, npb, npc, len, sub, q⟩ := h
    refine ⟨_, PSs.nox (pss_cons (ps_set (i := 2) nd rfl (by first | exact .inl rfl | exact .inr rfl) (pe_op op_add pe_int (pe_call GD hr (by rfl) gD kD bD .nil pass0 (pa_cons (pv 0) (pa_cons pe_int pa_nil)))))
      (pss_cons (ps_set (i := 3) nd rfl (by first | exact .inl rfl | exact .inr rfl) pe_int)
      (C8.pss_cut (ps_if (pt_cmpR op_eq (pe_call GD hr (by rfl) gD kD bD .nil pass0 (pa_cons (pv 0) (pa_cons pe_int pa_nil))) pe_int (nomark _))
          (pss_cons (ps_set (i := 2) nd rfl (by first | exact .inl rfl | exact .inr rfl) (pe_op op_add pe_int (pe_call GD hr (by rfl) gD kD bD .nil pass0 (pa_cons (pv 0) (pa_cons pe_int pa_nil))))) (pss_one (ps_set (i := 3) nd rfl (by first | exact .inl rfl | exact .inr rfl) pe_int))) pss_nil)
      (pss_cons (ps_set (i := 4) nd rfl (by first | exact .inl rfl | exact .inr rfl) (pe_lst pa_nil))
      (pss_cons (ps_for PassesOwn.never rfl (pi_range1 rfl N.range (pa_cons (pv 2) pa_nil)) (pg_name (i := 5) nd rfl (by first | exact .inl rfl | exact .inr rfl))
        (pss_cons (ps_set (i := 7) nd rfl (by first | exact .inl rfl | exact .inr rfl) (pe_joinK (K := K) rfl pe_str (pe_lc (own := [("_law_j", 6)]) (g := gName 6) (tt := tYes) rfl nd (pi_range1 rfl N.range (pa_cons (pe_op op_add pe_int (pe_call GD hr (by rfl) gD kD bD .nil pass0 (pa_cons (pv 0) (pa_cons (pv 3) pa_nil)))) pa_nil))
            (blkOk_by (N := ["_law_bag_here", "_law_letters_here", "_law_many", "_law_size", "_law_found", "_law_k", "_law_j", "_law_word"]) (sc := defScope s_l_word_row) (by decide +kernel)) (fun _ _ _ _ _ => pg_name (i := 6) nd rfl (Or.inl rfl)) (fun _ _ _ _ _ => pts_nil)
            (fun _ _ _ _ _ => pe_ix (r := rIxL K) ix_list (pv 1) (pe_call GD hr (by rfl) gD kD bD .nil pass0 (pa_cons (pv 0) (pa_cons pe_int pa_nil))) (fun _ _ => rfl)))))
        (pss_one (ps_expr (pe_bm PySem.F.plainAttrs_list PySem.F.slot_list_append PySem.F.type_list_append mt_append (pv 4) (pa_cons (pv 7) pa_nil))))))
      (pss_one (ps_ret (pv 4)))))))), ?_⟩
    refine ⟨_, rfl, b, c, 6, rfl, B, by decide, by decide, fun d H1 d0 d6 B1 K1 => ⟨_, _, rfl, rfl, ?_⟩⟩
    refine name_go ?_
    dsimp only
    refine ⟨fun σ' H' => ∃ m s : Nat, σ' = [some (.ref b), some (.ref p), some (.int (m : Nat)), some (.int (s : Nat)), none, none, none, none] ∧ Bag H' b c ∧ Kept b c H H' ∧ 1 ≤ m ∧ m ≤ 20 ∧ 1 ≤ s ∧ s ≤ 20, ?_, ?_⟩
    · refine ⟨_, rfl, b, c, 4, rfl, B1, by decide, by decide, fun e H2 e0 e4 B2 K2 => ?_⟩
      obtain ⟨d, rfl⟩ := Int.eq_ofNat_of_zero_le d0
      refine ⟨rfl, _, rfl, ?_⟩
      by_cases he : e = 1
      · refine (if_pos (decide_eq_true (by rw [he]))).mpr ?_
        refine ⟨_, rfl, b, c, 20, rfl, B2, by decide, by decide, fun g H3 g0 g20 B3 K3 => ⟨_, _, rfl, rfl, ?_⟩⟩
        obtain ⟨g, rfl⟩ := Int.eq_ofNat_of_zero_le g0
        refine ⟨1 + g, 20, ?_, B3, (K1.trans K2).trans K3, by omega, by omega, by decide, by decide⟩
        have ei : (1 : Int) + ((g : Nat) : Int) = ((1 + g : Nat) : Int) := by omega
        exact congrArg (fun z : Int => [some (V.ref b), some (V.ref p), some (V.int z), some (V.int (20 : Nat)), none, none, none, none]) ei
      · refine (if_neg (fun z => he (V.int.inj (of_decide_eq_true z)))).mpr ?_
        refine ⟨1 + d, 6, ?_, B2, K1.trans K2, by omega, by omega, by decide, by decide⟩
        have ei : (1 : Int) + ((d : Nat) : Int) = ((1 + d : Nat) : Int) := by omega
        exact congrArg (fun z : Int => [some (V.ref b), some (V.ref p), some (V.int z), some (V.int (6 : Nat)), none, none, none, none]) ei
    · rintro σ' H2 ⟨m, s, rfl, B2, K2, m1, m20, s1, s20⟩
      refine ⟨Nat.zero_le _, fun R hR => ?_⟩
      have Rb := B2.neB hR
      have Rc := B2.neC hR
      have kR := same_new (o := .lst []) hR
      refine ⟨_, rfl, m, rfl, by omega, by omega, ?_⟩
      refine for_range (lo := 0) (n := ((m : Nat) : Int).toNat) (fun i σ H' => ∃ (ws : List (List Nat)) (x5 x6 x7 : Option V), σ = [some (.ref b), some (.ref p), some (.int (m : Nat)), some (.int (s : Nat)), some (.ref R), x5, x6, x7] ∧ Bag H' b c ∧ Kept b c H2 H' ∧ H' R = some (.lst (wordsV ws)) ∧ ws.length = i ∧ ∀ l ∈ ws, WdG l) ⟨[], none, none, none, rfl, B2.same kR, Kept.of kR, upd_same, rfl, by simp⟩ ?_ ?_
      · rintro i σ H3 hi ⟨ws, x5, x6, x7, rfl, B3, K3, e3, len3, g3⟩
        rw [Int.toNat_natCast] at hi
        have hp3 := K3 _ _ (K2 _ _ hp npb npc) npb npc
        refine ⟨⟨_, rfl⟩, _, rfl, _, rfl, b, c, (s : Int), rfl, B3, by omega, ?_, fun t H4 t0 t1 B4 K4 => ⟨_, _, rfl, rfl, ?_⟩⟩
        · show s < 2 ^ 200
          exact Nat.lt_of_le_of_lt s20 (by decide)
        obtain ⟨t, rfl⟩ := Int.eq_ofNat_of_zero_le t0
        refine ⟨1 + (t : Int), rfl, by omega, by omega, fun D hD => ?_⟩
        have nDb := B4.neB hD
        have nDc := B4.neC hD
        have kD4 := same_new (o := .lst []) hD
        have K34 := K3.trans K4
        refine lc_range (lo := 0) (n := (1 + (t : Int)).toNat) (fun j H' => ∃ l : List Nat, H' D = some (.lst (lettersV l)) ∧ l.length = j ∧ (∀ n ∈ l, n ∈ alpha) ∧ Bag H' b c ∧ Kept b c H4 H') ⟨[], upd_same, rfl, by simp, B4.same kD4, Kept.of kD4⟩ ?_ ?_
        · rintro j H5 hj ⟨l, e5, len5, sub5, B5, K5⟩
          have hp5 := K5 _ _ (K4 _ _ hp3 npb npc) npb npc
          refine ⟨rfl, yes_keep ?_⟩
          refine ⟨_, rfl, _, rfl, b, c, 3, rfl, B5, by decide, by decide, fun u H6 u0 u3 B6 K6 => ?_⟩
          obtain ⟨u, rfl⟩ := Int.eq_ofNat_of_zero_le u0
          have ul : u < ls.length := by omega
          have get : (lettersV ls)[u]? = some (.str (sg ls[u])) := by
            unfold lettersV
            rw [List.getElem?_map, List.getElem?_eq_getElem ul]
            rfl
          have e6 := K6 _ _ e5 nDb nDc
          refine ⟨p, _, (u : Int), _, rfl, rfl, SqL.of (K6 _ _ hp5 npb npc), atI_nat get, _, e6, ?_, l ++ [ls[u]], ?_, ?_, ?_, ?_, ?_⟩
          · unfold lettersV
            rw [List.length_map]
            exact small1000 (by omega)
          · rw [upd_same]
            unfold lettersV
            rw [List.map_append]
            rfl
          · rw [List.length_append, len5]
            rfl
          · intro n hn
            rcases List.mem_append.mp hn with z | z
            · exact sub5 n z
            · rw [List.mem_singleton.mp z]
              exact sub _ (List.getElem_mem ul)
          · obtain ⟨n5, m5, k5, hb5⟩ := B6.top
            obtain ⟨ns5, hc5⟩ := B6.cells
            exact ⟨⟨n5, m5, k5, by rw [upd_ne (Ne.symm nDb)]; exact hb5⟩, ⟨ns5, by rw [upd_ne (Ne.symm nDc)]; exact hc5⟩⟩
          · intro x o e nb nc
            rw [upd_ne (ne_of_none e hD)]
            exact (K5.trans K6) x o e nb nc
        · rintro H5 ⟨l, e5, len5, sub5, B5, K5⟩
          refine join_rd (l := l) e5 (by omega) ?_
          refine name_go ?_
          dsimp only
          have e6 := K5 _ _ (K4 _ _ e3 Rb Rc) Rb Rc
          refine ⟨.ref R, rfl, .inl ⟨rfl, _, SqL.of e6⟩, _, rfl, R, _, _, rfl, rfl, e6, ?_, ?_⟩
          · unfold wordsV
            rw [List.length_map]
            exact small1000 (by omega)
          refine ⟨ws ++ [l], _, _, _, rfl, ?_, fun x o e nb nc => ?_, ?_, ?_, ?_⟩
          · obtain ⟨n5, m5, k5, hb5⟩ := B5.top
            obtain ⟨ns5, hc5⟩ := B5.cells
            exact ⟨⟨n5, m5, k5, by rw [upd_ne (Ne.symm Rb)]; exact hb5⟩, ⟨ns5, by rw [upd_ne (Ne.symm Rc)]; exact hc5⟩⟩
          · rw [upd_ne (ne_of_none e hR)]
            exact (K34.trans K5) x o e nb nc
          · rw [upd_same]
            unfold wordsV
            rw [List.map_append]
            rfl
          · rw [List.length_append, len3]
            rfl
          · intro z hz
            rcases List.mem_append.mp hz with y | y
            · exact g3 z y
            · rw [List.mem_singleton.mp y]
              exact ⟨sub5, by omega, by omega⟩
      · rintro σ H3 ⟨ws, x5, x6, x7, rfl, B3, K3, e3, len3, g3⟩
        rw [Int.toNat_natCast] at len3
        exact ⟨_, rfl, q R ws H3 B3 (K2.trans K3) (free_kept K2 hR Rb Rc) Rb Rc e3 (by omega) (by omega) g3⟩
end
end K04

set_option autoImplicit false
set_option maxErrors 4
namespace K04
open PySem PySem.Spec PyProof.Rows L2 Tl
/-! ### the alternatives of given words, the many words -/
theorem RL.kept {b c R : Addr} {H H' : Hp} {rs : Rws} (h : RL H R rs) (B : Bag H b c) (k : Kept b c H H') (nb : R ≠ b) (nc : R ≠ c) : RL H' R rs :=
  ⟨k _ _ h.at_ nb nc, h.ok.tups (kept_tup B k), h.tx, h.ne, h.few⟩
theorem KindL.kept {KC b c k : Addr} {H H' : Hp} {rows : List RowL} (h : KindL KC H k rows) (B : Bag H b c) (kk : Kept b c H H') : KindL KC H' k rows := h.stay (kept_ins B kk) (kept_tup B kk)
theorem rl_rows {H : Hp} {R : Addr} {rs : Rws} (e : H R = some (.lst (rowsV rs))) (at_ : RowsAt H rs) (l : rs.length ≤ 2) (g : ∀ x ∈ rs, RowG x.1) : RL H R rs :=
  ⟨e, at_, fun x hx y hy => ((g x hx).all y hy).txok, fun x hx => (g x hx).ne, by omega⟩
/-- [tuple(..) for word in words] -/
theorem lc_given {K : PySem.W.Frag} {te te' : TE} {σ : L2.St} {H : Hp} {Q : VK} {R : Addr} {ws : List (List Nat)} {i : Nat} (hte : ∀ S : VK, S (.ref R) H → te σ H S) (hR : H R = some (.lst (wordsV ws))) (few : ws.length ≤ 1000) (good : ∀ l ∈ ws, WdG l)
    (hw : ∀ x : V, wipe ((wipe σ [i]).set i (some x)) [i] = wipe σ [i])
    (he : ∀ (l : List Nat) (H2 : Hp) (S : VK), WdG l → (∀ (u : Addr) (H3 : Hp), Same H2 H3 → NkV H3 (rowK (wordRow l)) (.ref u) → S (.ref u) H3) → te' ((wipe σ [i]).set i (some (.str (tx l)))) H2 S)
    (hq : ∀ (D : Addr) (rs : Rws) (H' : Hp), Same H H' → RL H' D rs → rs.map (·.1) = ws.map wordRow → Q (.ref D) H') : tLc (iList K te) (gName i) tYes te' [i] σ H Q := by
  refine hte _ ⟨R, rfl, ⟨_, SqL.of hR⟩, fun D hD => ?_⟩
  have lw : (wordsV ws).length = ws.length := List.length_map _
  refine lc_it (n := ws.length) (by rw [← lw]; exact walk_list) (fun j H' => ∃ acc : Rws, H' D = some (.lst (rowsV acc)) ∧ acc.map (·.1) = (ws.take j).map wordRow ∧ RowsAt H' acc ∧ Same H H') ⟨[], upd_same, rfl, (fun x hx => by cases hx), same_new hD⟩ (fun j H' _ h => by
    obtain ⟨_, _, _, _, sm⟩ := h
    exact SqL.of (sm _ _ hR)) ?_ ?_
  · rintro j x _ H3 hj ⟨acc, e, em, rat, sm3⟩ ⟨rfl, hx⟩
    obtain ⟨l, hl, rfl⟩ := wordsV_get hx
    have gl := good l (List.mem_of_getElem? hl)
    refine ⟨hw _, yes_keep ?_⟩
    refine he l _ _ gl fun u H4 s4 row => ?_
    have eD := s4 _ _ e
    have la : acc.length = j := by
      have z := congrArg List.length em
      rw [List.length_map, List.length_map, List.length_take] at z
      omega
    have tp := upd_tups (u := .lst (rowsV acc ++ [.ref u])) eD
    refine ⟨_, eD, ?_, acc ++ [(wordRow l, u)], ?_, ?_, fun y hy => ?_, fun c o z => ?_⟩
    · unfold rowsV
      rw [List.length_map]
      exact small1000 (by omega)
    · rw [upd_same]
      unfold rowsV
      rw [List.map_append]
      rfl
    · rw [List.map_append, em, List.take_add_one, hl, List.map_append]
      rfl
    · rcases List.mem_append.mp hy with hy | hy
      · exact nkT tp _ _ ((rat.same s4) y hy)
      · rw [List.mem_singleton.mp hy]
        exact nkT tp _ _ row
    · rw [upd_ne (ne_of_none z hD)]
      exact s4 _ _ (sm3 _ _ z)
  · rintro H3 ⟨acc, e, em, rat, sm3⟩
    rw [List.take_of_length_le (Nat.le_refl _)] at em
    have la : acc.length = ws.length := by
      have z := congrArg List.length em
      rw [List.length_map, List.length_map] at z
      exact z
    have mem : ∀ x ∈ acc, ∃ l ∈ ws, wordRow l = x.1 := fun x hx => by
      have m : x.1 ∈ ws.map wordRow := by
        rw [← em]
        exact List.mem_map.mpr ⟨x, hx, rfl⟩
      exact List.mem_map.mp m
    refine hq D acc H3 sm3 ⟨e, rat, fun x hx => ?_, fun x hx => ?_, by omega⟩ em
    · obtain ⟨l, hl, el⟩ := mem x hx
      rw [← el]
      exact wordRow_tx (good l hl).sub
    · obtain ⟨l, hl, el⟩ := mem x hx
      rw [← el]
      exact wordRow_ne (good l hl).one
/-- tuple([(sign, 1, 1) for sign in word]) -/
theorem tup_wd {K : PySem.W.Frag} {te te' : TE} {σ : L2.St} {H : Hp} {S : VK} {l : List Nat} {i : Nat} (g : WdG l)
    (hte : ∀ Q' : VK, Q' (.str (tx l)) H → te σ H Q') (hw : ∀ x : V, wipe ((wipe σ [i]).set i (some x)) [i] = wipe σ [i])
    (he : ∀ (n : Nat) (H2 : Hp) (Q' : VK), (∀ p, H2 p = none → Q' (.ref p) (upd H2 p (.tup [.str (sg n), .int 1, .int 1]))) → te' ((wipe σ [i]).set i (some (.str (sg n)))) H2 Q')
    (q : ∀ (u : Addr) (H3 : Hp), Same H H3 → NkV H3 (rowK (wordRow l)) (.ref u) → S (.ref u) H3) : tCB (rTupO K) (tCons (tLc (iStr te) (gName i) tYes te' [i]) tNil) σ H S := by
  refine cb_one ?_
  refine lc_wd (l := l) (by have := g.few; omega) hte hw he fun D3 bs H4 s4 e4 em4 eb4 => ?_
  refine ⟨D3, runsV bs, rfl, .inl ⟨SqL.of e4, fun u hu => ?_⟩⟩
  have k1 := same_new (o := .tup (runsV bs)) hu
  have row : NkV (upd H4 u (.tup (runsV bs))) (rowK (wordRow l)) (.ref u) := by
    have z := row_is (bs := bs) (upd_same (H := H4) (a := u) (o := .tup (runsV bs))) fun x hx => k1 _ _ (eb4 x hx)
    rw [em4] at z
    exact z
  exact q u _ (s4.trans k1) row
end K04

set_option autoImplicit false
set_option maxErrors 4
namespace K04
open PySem PySem.Spec PyProof.Rows L2 Tl
/-! ### the law -/
abbrev wordSc : Scope := { kind := .function, names := [(".0", .local), ("_law_word", .local), ("tuple", .globalImplicit)], isGenerator := false, isCoroutine := false }
abbrev manySc : Scope := { kind := .function, names := [(".0", .local), ("_law_k", .cell), ("range", .globalImplicit), ("_law_letters_here", .cell)], isGenerator := false, isCoroutine := false }
abbrev lN : List Str := ["_law_script", "_law_bag_here", "_law_letters_here", "_law_rows_here", "_law_others", "_law_times_here", "_law_one", "_law_two", "_law_power_here", "_law_words", "_law_word", "_law_sign", "_law_given_here", "_law_k", "_law_j", "_law_many", "_law_twenty", "_law_full", "_law_same"]
theorem cut_to (ls : List Nat) (k : Nat) : cutV (lettersV ls) none (some (k : Int)) = lettersV (ls.take k) := by
  rw [cut_take]
  unfold lettersV
  rw [List.map_take]
theorem cut_from (ls : List Nat) (k : Nat) : cutV (lettersV ls) (some (k : Int)) none = lettersV (ls.drop k) := by
  rw [cut_drop]
  unfold lettersV
  rw [List.map_drop]
theorem call1_go {sp : Sp} {ds : List V} {E : XK} {te : TE} {σ : L2.St} {H : Hp} {Q : VK} (h : te σ H fun x H1 => sp ([x] ++ ds) H1 Q E) : tCall sp ds E (tCons te tNil) σ H Q := h
/-- the k-th word of three signs -/
def wordK (ls : List Nat) (k : Nat) : List Nat := [ls.getD (k % 3) 0, ls.getD (k / 3 % 3) 0, ls.getD (k / 9 % 3) 0]
theorem many_next (ls : List Nat) (i : Nat) : manyL ls (i + 1) = manyL ls i ++ [wordK ls i] := by
  unfold manyL
  rw [List.range_succ, List.map_append]
  rfl
theorem cut_words (ws : List (List Nat)) (k : Nat) : cutV (wordsV ws) none (some (k : Int)) = wordsV (ws.take k) := by
  rw [cut_take]
  unfold wordsV
  rw [List.map_take]
theorem cut_words2 (ws : List (List Nat)) (k : Nat) : cutV (wordsV ws) (some (k : Int)) none = wordsV (ws.drop k) := by
  rw [cut_drop]
  unfold wordsV
  rw [List.map_drop]
theorem cut_rows (rs : Rws) (k : Nat) : cutV (rowsV rs) none (some (k : Int)) = rowsV (rs.take k) := by
  rw [cut_take]
  unfold rowsV
  rw [List.map_take]
theorem some1 {ks : Rws} {rows : List RowL} (e : ks.map (·.1) = rows) (ne : rows ≠ []) : 1 ≤ ks.length := by
  cases ks with
  | nil => exact absurd e.symm ne
  | cons x r => simp
theorem rows_ne {rs : Rws} (l : 1 ≤ rs.length) : rs.map (·.1) ≠ [] := fun z => by
  have z := congrArg List.length z
  rw [List.length_map] at z
  simp at z
  rw [z] at l
  cases l
/-- drawn alternatives -/
structure Drw (rs : Rws) : Prop where
  lo : 1 ≤ rs.length
  hi : rs.length ≤ 2
  all : ∀ x ∈ rs, RowG x.1
theorem Drw.ne {rs : Rws} (h : Drw rs) : rs.map (·.1) ≠ [] := rows_ne h.lo
theorem Drw.each {rs : Rws} (h : Drw rs) : ∀ r ∈ rs.map (·.1), RowG r := fun r hr => by
  obtain ⟨y, hy, rfl⟩ := List.mem_map.mp hr
  exact h.all y hy
theorem Drw.fine {rs : Rws} (h : Drw rs) : Fine (onceL (rs.map (·.1))) := fine_once h.ne (by rw [List.length_map]; exact h.hi) h.each
theorem Drw.two {rs : Rws} (h : Drw rs) : (onceL (rs.map (·.1))).length ≤ 2 := Nat.le_trans (onceL_len _) (by rw [List.length_map]; exact h.hi)
/-- what stands through the law -/
structure Std (KC b c p R1 R2 k1 k2 : Addr) (ls : List Nat) (rs1 rs2 : Rws) (H : Hp) : Prop where
  bag : Bag H b c
  row : H p = some (.lst (lettersV ls))
  pb : p ≠ b
  pc : p ≠ c
  R1b : R1 ≠ b
  R1c : R1 ≠ c
  R2b : R2 ≠ b
  R2c : R2 ≠ c
  rl1 : RL H R1 rs1
  rl2 : RL H R2 rs2
  kl1 : KindL KC H k1 (onceL (rs1.map (·.1)))
  kl2 : KindL KC H k2 (onceL (rs2.map (·.1)))
theorem Std.kept {KC b c p R1 R2 k1 k2 : Addr} {ls : List Nat} {rs1 rs2 : Rws} {H H' : Hp} (h : Std KC b c p R1 R2 k1 k2 ls rs1 rs2 H) (B : Bag H' b c) (k : Kept b c H H') : Std KC b c p R1 R2 k1 k2 ls rs1 rs2 H' :=
  ⟨B, k _ _ h.row h.pb h.pc, h.pb, h.pc, h.R1b, h.R1c, h.R2b, h.R2c, h.rl1.kept h.bag k h.R1b h.R1c, h.rl2.kept h.bag k h.R2b h.R2c, h.kl1.kept h.bag k, h.kl2.kept h.bag k⟩
theorem Std.same {KC b c p R1 R2 k1 k2 : Addr} {ls : List Nat} {rs1 rs2 : Rws} {H H' : Hp} (h : Std KC b c p R1 R2 k1 k2 ls rs1 rs2 H) (s : Same H H') : Std KC b c p R1 R2 k1 k2 ls rs1 rs2 H' := h.kept (h.bag.same s) (Kept.of s)
/-- the letters -/
structure Ltr (ls : List Nat) : Prop where
  len : ls.length = 3
  nd : ls.Nodup
  sub : ∀ n ∈ ls, n ∈ alpha
def sB (a b p R1 R2 k1 k2 : Addr) (t : Nat) : L2.St := [some (.ref a), some (.ref b), some (.ref p), some (.ref R1), some (.ref R2), some (.int (t : Nat)), some (.ref k1), some (.ref k2), none, none, none, none, none, none, none, none, none, none, none]
def sC (a b p R1 R2 k1 k2 pp R3 pg : Addr) (t : Nat) : L2.St := [some (.ref a), some (.ref b), some (.ref p), some (.ref R1), some (.ref R2), some (.int (t : Nat)), some (.ref k1), some (.ref k2), some (.ref pp), some (.ref R3), none, none, some (.ref pg), none, none, none, none, none, none]
section
variable {P : Program} {w : World} {K : PySem.W.Frag} {mg : Str → Option Value} {base : Heap} {NC KC BK C : Addr}
/-- what the law leans on -/
structure Parts (P : Program) (w : World) (K : PySem.W.Frag) (mg : Str → Option Value) (base : Heap) (NC KC BK C : Addr) : Prop where
  bag : Can P w K mg base CX0 "_law_bag" ["_law_script"] 1 (spBag K)
  draw : Can P w K mg base CX0 "_law_draw" ["_law_bag_here", "_law_limit"] 1 spDraw
  letters : Can P w K mg base CX0 "_law_letters" ["_law_bag_here", "_law_many"] 2 spLetters
  rows : Can P w K mg base CX0 "_law_rows" ["_law_bag_here", "_law_letters_here"] 4 spRowsD
  kind : Can P w K mg base CX0 "_law_kind" ["_law_rows_here"] 9 (spKindD KC)
  flag : Can P w K mg base CX0 "_law_flag" ["_law_actual", "_law_due"] 1 spFlag
  kept : Can P w K mg base CX0 "_law_kept" ["_law_rows_here"] 1 spKept
  product : Can P w K mg base CX0 "_law_product" ["_law_rows_here", "_law_others"] 2 spProd
  power : Can P w K mg base CX0 "_law_power" ["_law_rows_here", "_law_times_here"] 3 spPower
  told : Can P w K mg base CX0 "_law_told" ["_law_made", "_law_one", "_law_other"] 12 (spTold P w K mg base KC BK)
  right : Can P w K mg base CX0 "_law_right" ["_law_told_here", "_law_rows_here"] 2 (spRight KC)
  wordrow : Can P w K mg base CX0 "_law_word_row" ["_law_bag_here", "_law_letters_here"] 2 spWordRow
  plus : Can P w K mg base (L2N.CX P w) "_law_plus" ["_law_one", "_law_other"] 9 (spTwo KC BK prodL)
  either : Can P w K mg base (L2N.CX P w) "_law_either" ["_law_one", "_law_other"] 9 (spTwo KC BK orL)
  times : Can P w K mg base (L2N.CX P w) "_law_times" ["_law_one", "_law_other"] 11 (spTimesK KC BK)
  given : Can P w K mg base (L2N.CX P w) "_law_given" ["_law_one", "_law_other"] 9 (spGiven KC BK)
  words : ∃ f fd, Stat K KC "words" f ∧ FnOk P w K mg base (L2N.CX P w) 8 f fd ["texts"] (spWords KC BK) ∧ Binds K fd ["texts"] []
  eq : ∃ f fd, OpC K KC "__eq__" f ∧ FnOk P w K mg base CX0 1 f fd ["self", "other"] (spEqK KC) ∧ Binds K fd ["self", "other"] []

end
end K04

set_option autoImplicit false
set_option maxErrors 4
namespace K04
open PySem PySem.Spec PyProof.Rows L2 Tl
section
variable {P : Program} {w : World} {K : PySem.W.Frag} {mg : Str → Option Value} {base : Heap} {NC KC BK C : Addr}
set_option maxHeartbeats 40000000 in
theorem law_c {f : Addr} {cdv : Value} {A : Around} {outer : List Env} {s : Shared} {H0 : Hp} {E : XK} (N : Nms mg) (KK : KindC K KC) (gK : mg "Kind" = some (.ref KC)) (nf : PySem.W.notFirst K KC (.type "list") = true) (Z : Parts P w K mg base NC KC BK C)
    (hr : Room 12 (A.deeper (envOfC "law" (defScope s_law) s.heap.objs.size f cdv))) : ∃ tt : TS, PSs (cxOf CX0 P w K mg base lN "law" (defScope s_law) f cdv A outer s H0 E).nox ((defBody s_law).drop 16) tt ∧
    ∀ (D : Ends) (a b c p R1 R2 k1 k2 pp R3 pg : Addr) (t : Nat) (ls : List Nat) (rs1 rs2 : Rws) (H27 : Hp), Ltr ls → Drw rs1 → Drw rs2 → Std KC b c p R1 R2 k1 k2 ls rs1 rs2 H27 → (∀ H', D.rt (.bl true) H') → tt D (sC a b p R1 R2 k1 k2 pp R3 pg t) H27 := by
  obtain ⟨fBa, fdBa, GBa, gBa, kBa, bBa⟩ := Z.bag
  obtain ⟨fDr, fdDr, GDr, gDr, kDr, bDr⟩ := Z.draw
  obtain ⟨fLe, fdLe, GLe, gLe, kLe, bLe⟩ := Z.letters
  obtain ⟨fRo, fdRo, GRo, gRo, kRo, bRo⟩ := Z.rows
  obtain ⟨fKi, fdKi, GKi, gKi, kKi, bKi⟩ := Z.kind
  obtain ⟨fFl, fdFl, GFl, gFl, kFl, bFl⟩ := Z.flag
  obtain ⟨fKe, fdKe, GKe, gKe, kKe, bKe⟩ := Z.kept
  obtain ⟨fPr, fdPr, GPr, gPr, kPr, bPr⟩ := Z.product
  obtain ⟨fPo, fdPo, GPo, gPo, kPo, bPo⟩ := Z.power
  obtain ⟨fTo, fdTo, GTo, gTo, kTo, bTo⟩ := Z.told
  obtain ⟨fRi, fdRi, GRi, gRi, kRi, bRi⟩ := Z.right
  obtain ⟨fWo, fdWo, GWo, gWo, kWo, bWo⟩ := Z.wordrow
  obtain ⟨fPl, fdPl, GPl, gPl, kPl, bPl⟩ := Z.plus
  obtain ⟨fEi, fdEi, GEi, gEi, kEi, bEi⟩ := Z.either
  obtain ⟨fTi, fdTi, GTi, gTi, kTi, bTi⟩ := Z.times
  obtain ⟨fGi, fdGi, GGi, gGi, kGi, bGi⟩ := Z.given
  obtain ⟨fW, fdW, SW, GW, bW⟩ := Z.words
  obtain ⟨fE, fdE, ME, GE, bE⟩ := Z.eq
  have nd := sc_law.nd
  have r1 := hr.mono (show 1 ≤ 12 by decide)
  have r2 := hr.mono (show 2 ≤ 12 by decide)
  have r3 := hr.mono (show 3 ≤ 12 by decide)
  have r4 := hr.mono (show 4 ≤ 12 by decide)
  have r8 := hr.mono (show 8 ≤ 12 by decide)
  have r9 := hr.mono (show 9 ≤ 12 by decide)
  have r12 := hr
  refine ⟨_, (pss_cons (ps_setLc (i := 15) (own := [("_law_k", 13)]) (g := gName 13) (tt := tYes) rfl nd rfl rfl rfl (pi_range1 rfl N.range (pa_cons pe_int pa_nil)) (blkOk_by (N := ["_law_script", "_law_bag_here", "_law_letters_here", "_law_rows_here", "_law_others", "_law_times_here", "_law_one", "_law_two", "_law_power_here", "_law_words", "_law_word", "_law_sign", "_law_given_here", "_law_k", "_law_j", "_law_many", "_law_twenty", "_law_full", "_law_same"]) (sc := defScope s_law) (by decide +kernel)) (fun _ _ _ _ _ => pg_name (i := 13) nd rfl (Or.inr rfl)) (fun _ _ _ _ _ => pts_nil)
        (fun _ _ _ _ _ => pe_joinK (K := K) rfl pe_str (pe_lc (own := [("_law_j", 14)]) (g := gName 14) (tt := tYes) rfl nd (pi_range1 rfl N.range (pa_cons pe_int pa_nil)) (blkOk_by (N := ["_law_script", "_law_bag_here", "_law_letters_here", "_law_rows_here", "_law_others", "_law_times_here", "_law_one", "_law_two", "_law_power_here", "_law_words", "_law_word", "_law_sign", "_law_given_here", "_law_k", "_law_j", "_law_many", "_law_twenty", "_law_full", "_law_same"]) (sc := manySc) (by decide +kernel)) (fun _ _ _ _ _ => pg_name (i := 14) nd rfl (Or.inl rfl)) (fun _ _ _ _ _ => pts_nil)
          (fun _ _ _ _ _ => pe_ix (r := rIxL K) ix_list (pv 2) (pe_op op_mod (pe_callTy call_int1 (by rfl) N.int (by decide +kernel) (pa_cons (pe_op op_fdiv (pv 13) (pe_ix (r := rIxL K) ix_list (pe_lst (pa_cons pe_int (pa_cons pe_int (pa_cons pe_int pa_nil)))) (pv 14) (fun _ _ => rfl))) pa_nil)) pe_int) (fun _ _ => rfl)))))
      (pss_cons (ps_set (i := 16) nd rfl (by first | exact .inl rfl | exact .inr rfl) (pe_call GKe r1 (by rfl) gKe kKe bKe .nil pass0 (pa_cons (pe_lc (own := [("_law_word", 10)]) (g := gName 10) (tt := tYes) rfl nd (pi_list (pv 15)) (blkOk_by (N := ["_law_script", "_law_bag_here", "_law_letters_here", "_law_rows_here", "_law_others", "_law_times_here", "_law_one", "_law_two", "_law_power_here", "_law_words", "_law_word", "_law_sign", "_law_given_here", "_law_k", "_law_j", "_law_many", "_law_twenty", "_law_full", "_law_same"]) (sc := defScope s_law) (by decide +kernel)) (fun _ _ _ _ _ => pg_name (i := 10) nd rfl (Or.inl rfl)) (fun _ _ _ _ _ => pts_nil)
          (fun _ _ _ _ _ => pe_callTy (T := "tuple") (r := rTupO K) call_tuple_of (by rfl) N.tuple (by decide +kernel) (pa_cons (pe_lc (own := [("_law_sign", 11)]) (g := gName 11) (tt := tYes) rfl nd (pi_str (pv 10)) (blkOk_by (N := ["_law_script", "_law_bag_here", "_law_letters_here", "_law_rows_here", "_law_others", "_law_times_here", "_law_one", "_law_two", "_law_power_here", "_law_words", "_law_word", "_law_sign", "_law_given_here", "_law_k", "_law_j", "_law_many", "_law_twenty", "_law_full", "_law_same"]) (sc := wordSc) (by decide +kernel)) (fun _ _ _ _ _ => pg_name (i := 11) nd rfl (Or.inl rfl)) (fun _ _ _ _ _ => pts_nil)
            (fun _ _ _ _ _ => pe_tup (pa_cons (pv 11) (pa_cons pe_int (pa_cons pe_int pa_nil))))) pa_nil))) pa_nil)))
      (pss_cons (ps_set (i := 17) nd rfl (by first | exact .inl rfl | exact .inr rfl) (pe_stat SW GW r8 (by rfl) gK bW .nil (L2N.passAt nothingOut) (pa_cons (pe_slice (r := rSlL K) sl_list (pv 15) po_none (po_some pe_int)) pa_nil)))
      (pss_cons (ps_if (pt_not (pt_val (pe_call GRi r2 (by rfl) gRi kRi bRi .nil pass0 (pa_cons (pe_call GTo r12 (by rfl) gTo kTo bTo .nil pass0 (pa_cons (pe_glob (v := .ref fEi) (by rfl) gEi rfl) (pa_cons (pv 17) (pa_cons (pe_stat SW GW r8 (by rfl) gK bW .nil (L2N.passAt nothingOut) (pa_cons (pe_slice (r := rSlL K) sl_list (pv 15) (po_some pe_int) po_none) pa_nil)) pa_nil)))) (pa_cons (pv 16) pa_nil))))) (pss_one (ps_ret pe_bl)) pss_nil)
      (pss_cons (ps_if (pt_not (pt_val (pe_call GRi r2 (by rfl) gRi kRi bRi .nil pass0 (pa_cons (pe_call GTo r12 (by rfl) gTo kTo bTo .nil pass0 (pa_cons (pe_glob (v := .ref fEi) (by rfl) gEi rfl) (pa_cons (pv 17) (pa_cons (pv 17) pa_nil)))) (pa_cons (pe_slice (r := rSlL K) sl_list (pv 16) po_none (po_some pe_int)) pa_nil))))) (pss_one (ps_ret pe_bl)) pss_nil)
      (pss_cons (ps_set (i := 18) nd rfl (by first | exact .inl rfl | exact .inr rfl) (pe_cmpR (r := rEqD K) (op_eqD hr.units) (pe_call GKe r1 (by rfl) gKe kKe bKe .nil pass0 (pa_cons (pv 3) pa_nil)) (pe_call GKe r1 (by rfl) gKe kKe bKe .nil pass0 (pa_cons (pv 4) pa_nil)) (nomark _)))
      (pss_cons (ps_if (PW.pt (pw_or (pt_not (pt_val (pe_call GFl r1 (by rfl) gFl kFl bFl .nil pass0 (pa_cons (pe_cmpR (op_eqO ME GE r1 bE pass0) (pv 6) (pv 7) (nomark _)) (pa_cons (pv 18) pa_nil))))) (pw_or (pt_not (pt_val (pe_call GFl r1 (by rfl) gFl kFl bFl .nil pass0 (pa_cons (pe_cmpR (op_eqO ME GE r1 bE pass0) (pv 6) (pe_call GKi r9 (by rfl) gKi kKi bKi .nil pass0 (pa_cons (pv 3) pa_nil)) (nomark _)) (pa_cons (pe_bl) pa_nil))))) (pw_or1 (pt_cmpR (op_eqXs nf ME GE r1 bE pass0) (pv 6) (pv 3) (nomark _)))))) (pss_one (ps_ret pe_bl)) pss_nil)
      (pss_one (ps_ret (pe_and (pe_call GRi r2 (by rfl) gRi kRi bRi .nil pass0 (pa_cons (pe_tup (pa_cons pe_str (pa_cons (pv 6) pa_nil))) (pa_cons (pe_call GKe r1 (by rfl) gKe kKe bKe .nil pass0 (pa_cons (pv 3) pa_nil)) pa_nil))) (pe_one (pe_call GRi r2 (by rfl) gRi kRi bRi .nil pass0 (pa_cons (pe_tup (pa_cons pe_str (pa_cons (pv 7) pa_nil))) (pa_cons (pe_call GKe r1 (by rfl) gKe kKe bKe .nil pass0 (pa_cons (pv 4) pa_nil)) pa_nil)))))))))))))), ?_⟩
  · intro DD a b c p R1 R2 k1 k2 pp R3 pg t ls rs1 rs2 H27 ⟨len, ndl, sub⟩ d1 d2 S q
    obtain ⟨B27, ep27, pb, pc, R1b, R1c, R2b, R2c, rl1, rl2, kl1, kl2⟩ := S
    have fa := d1.fine
    have fb := d2.fine
    -- the many words
    refine seq_go ?_
    refine ⟨21, rfl, by decide, by decide, fun D hD => ?_⟩
    refine lc_range (lo := 0) (n := 21) (fun i H' => H' D = some (.lst (wordsV (manyL ls i))) ∧ Same H27 H') ⟨upd_same, same_new hD⟩ ?_ ?_
    · rintro i H28 hi ⟨eD, sm⟩
      rw [show (0 : Int) + (i : Int) = ((i : Nat) : Int) from Int.zero_add _]
      refine ⟨rfl, yes_keep ?_⟩
      refine ⟨⟨_, rfl⟩, 3, rfl, by decide, by decide, fun D2 hD2 => ?_⟩
      refine lc_range (lo := 0) (n := 3) (fun j H' => H' D2 = some (.lst (lettersV ((wordK ls i).take j))) ∧ Same H28 H') ⟨upd_same, same_new hD2⟩ ?_ ?_
      · rintro j H29 hj ⟨e2, sm2⟩
        rw [show (0 : Int) + (j : Int) = ((j : Nat) : Int) from Int.zero_add _]
        refine ⟨rfl, yes_keep ?_⟩
        obtain ⟨cj, fit, c0, c9, nx⟩ : ∃ cj : Nat, atI [V.int 1, V.int 3, V.int 9] ((j : Nat) : Int) = some (.int (cj : Nat)) ∧ 0 < cj ∧ cj ≤ 9 ∧ (wordK ls i).take (j + 1) = (wordK ls i).take j ++ [ls.getD (i / cj % 3) 0] := by
          have cs : j = 0 ∨ j = 1 ∨ j = 2 := by omega
          rcases cs with rfl | rfl | rfl
          · exact ⟨1, rfl, by decide, by decide, by rw [Nat.div_one]; rfl⟩
          · exact ⟨3, rfl, by decide, by decide, rfl⟩
          · exact ⟨9, rfl, by decide, by decide, rfl⟩
        refine ⟨_, rfl, _, rfl, line_small (by show 3 ≤ 16777216; decide), fun l2 n2 => ?_⟩
        have k3 := same_new (o := .lst [.int 1, .int 3, .int 9]) n2
        refine ⟨_, rfl, l2, _, _, _, rfl, rfl, SqL.of upd_same, fit, _, _, rfl, rfl, ⟨by omega, by omega⟩, .inl ⟨_, rfl, ?_⟩⟩
        refine ⟨_, _, rfl, rfl, (by show (0 : Int) < 3; decide), ?_⟩
        have il : i / cj % 3 < ls.length := by omega
        have get : (lettersV ls)[i / cj % 3]? = some (.str (sg (ls.getD (i / cj % 3) 0))) := by
          unfold lettersV
          rw [List.getElem?_map, List.getD_eq_getElem?_getD, List.getElem?_eq_getElem il]
          rfl
        refine ⟨p, _, ((i / cj % 3 : Nat) : Int), _, rfl, congrArg V.int (by omega), SqL.of (k3 _ _ (sm2 _ _ (sm _ _ ep27))), atI_nat get, _, k3 _ _ e2, ?_, ?_, fun x o e => ?_⟩
        · unfold lettersV
          rw [List.length_map, List.length_take]
          exact small1000 (by omega)
        · rw [upd_same, nx]
          unfold lettersV
          rw [List.map_append]
          rfl
        · rw [upd_ne (ne_of_none e hD2)]
          exact k3 _ _ (sm2 _ _ e)
      · rintro H29 ⟨e2, sm2⟩
        refine join_rd (l := wordK ls i) e2 (by show 3 ≤ 1000000; decide) ?_
        refine ⟨_, sm2 _ _ eD, ?_, ?_, fun x o e => ?_⟩
        · unfold wordsV
          rw [List.length_map, many_len]
          exact small1000 (by omega)
        · rw [upd_same, many_next]
          unfold wordsV
          rw [List.map_append]
          rfl
        · rw [upd_ne (ne_of_none e hD)]
          exact sm2 _ _ (sm _ _ e)
    · rintro H28 ⟨eD, sm28⟩
      refine name_go ?_
      dsimp only
      refine seq_go (asg_go (call1_go ?_))
      have rl1 := rl1.same sm28
      have rl2 := rl2.same sm28
      have kl1 := kl1.same sm28
      have kl2 := kl2.same sm28
      refine lc_given (fun S h => ⟨_, rfl, h⟩) eD (by rw [many_len]; decide) (many_good len sub 21) (fun _ => rfl) (fun l H2 S g h => tup_wd g (fun Q' q => ⟨_, rfl, q⟩) (fun _ => rfl) (fun n H4 Q' h => ⟨_, rfl, line_small (by show 3 ≤ 16777216; decide), fun p hp => h p hp⟩) h) fun DT rsT H29 s29 rlT eT => ?_
      refine ⟨DT, rsT, rfl, rlT, fun pt ksT H30 s30 npt klT keT => ?_⟩
      refine name_go ?_
      have ndT := many_nd len ndl 21 (by decide)
      have nd20 := many_nd len ndl 20 (by decide)
      rw [eT] at keT
      have once20 : onceL ((manyL ls 20).map wordRow) = (manyL ls 20).map wordRow := onceL_once nd20
      have f20 : Fine (onceL ((manyL ls 20).map wordRow)) := by
        rw [once20]
        exact fine_words (by rw [many_len]; decide) (by rw [many_len]; decide) many_len3
      have eD30 := s30 _ _ (s29 _ _ eD)
      -- the kind of twenty words
      refine ⟨_, rfl, 20, rfl, D, _, rfl, SqL.of eD30, fun gF ngF => ?_⟩
      rw [show cutV (wordsV (manyL ls 21)) none (some (20 : Int)) = wordsV (manyL ls 20) from (cut_words (manyL ls 21) 20).trans (by rw [many_take ls (by decide)])]
      have kF0 := same_new (o := .lst (wordsV (manyL ls 20))) ngF
      refine ⟨gF, manyL ls 20, rfl, .inl upd_same, by rw [many_len]; decide, by rw [many_len]; decide, many_good len sub 20, fun big => ?_, fun _ kF H31 s31 klF => ?_⟩
      · rw [f20.big] at big
        cases big
      refine name_go ?_
      have s30' := s29.trans (s30.trans (kF0.trans s31))
      have rl1 := rl1.same s30'
      have rl2 := rl2.same s30'
      have kl1 := kl1.same s30'
      have kl2 := kl2.same s30'
      have klT := (klT.same kF0).same s31
      -- one word more
      refine ⟨_, rfl, _, rfl, 20, rfl, D, _, rfl, SqL.of (s31 _ _ (kF0 _ _ eD30)), fun gL ngL => ?_⟩
      rw [show cutV (wordsV (manyL ls 21)) (some (20 : Int)) none = wordsV ((manyL ls 21).drop 20) from cut_words2 (manyL ls 21) 20]
      have kL0 := same_new (o := .lst (wordsV ((manyL ls 21).drop 20))) ngL
      have lenL : ((manyL ls 21).drop 20).length = 1 := by rw [List.length_drop, many_len]
      have onceL1 : onceL (((manyL ls 21).drop 20).map wordRow) = ((manyL ls 21).drop 20).map wordRow := onceL_once (List.Nodup.sublist ((List.drop_sublist 20 _).map _) ndT)
      have fL : Fine (onceL (((manyL ls 21).drop 20).map wordRow)) := by
        rw [onceL1]
        exact fine_words (by rw [lenL]; decide) (by rw [lenL]; decide) fun l hl => many_len3 l (List.mem_of_mem_drop hl)
      refine ⟨gL, (manyL ls 21).drop 20, rfl, .inl upd_same, by rw [lenL]; decide, by rw [lenL]; decide, fun l hl => many_good len sub 21 l (List.mem_of_mem_drop hl), fun big => ?_, fun _ kL H32 s32 klL => ?_⟩
      · rw [fL.big] at big
        cases big
      have glue21 : manyL ls 20 ++ (manyL ls 21).drop 20 = manyL ls 21 := by
        rw [← many_take ls (show 20 ≤ 21 by decide)]
        exact List.take_append_drop _ _
      have klF := (klF.same kL0).same s32
      refine ⟨fEi, .ref kF, .ref kL, fdEi, _, 9, _, onceL ((manyL ls 21).map wordRow), rfl, kEi, by decide, GEi, bEi, fun Q' E' e q' => ⟨kF, kL, _, _, rfl, klF, klL, f20, fL, by unfold Out; rw [once_or, ← List.map_append, glue21]; exact ⟨e, q'⟩⟩, fun u7 H33 s33 ta7 => ?_⟩
      have neT : onceL ((manyL ls 21).map wordRow) ≠ [] := onceL_ne fun z => by
        have z := congrArg List.length z
        rw [List.length_map, many_len] at z
        cases z
      have klT := ((klT.same kL0).same s32).same s33
      refine ⟨_, rfl, u7, pt, ksT, rfl, klT, some1 keT neT, by rw [keT]; exact ta7, fun H34 s34 => ⟨_, rfl, iteF ?_⟩⟩
      have klF := (klF.same s33).same s34
      have klT := klT.same s34
      -- the twenty words again
      refine ⟨_, rfl, _, rfl, fEi, .ref kF, .ref kF, fdEi, _, 9, _, onceL ((manyL ls 20).map wordRow), rfl, kEi, by decide, GEi, bEi, fun Q' E' e q' => ⟨kF, kF, _, _, rfl, klF, klF, f20, f20, by unfold Out; rw [once_twice]; exact ⟨e, q'⟩⟩, fun u8 H35 s35 ta8 => ?_⟩
      have klT := klT.same s35
      refine ⟨_, rfl, 20, rfl, pt, _, rfl, SqL.of klT.at_, fun gT ngT => ?_⟩
      rw [show cutV (rowsV ksT) none (some (20 : Int)) = rowsV (ksT.take 20) from cut_rows ksT 20]
      have kT0 := same_new (o := .lst (rowsV (ksT.take 20))) ngT
      have rl20 : RL (upd H35 gT (.lst (rowsV (ksT.take 20)))) gT (ksT.take 20) := ⟨upd_same, fun x hx => (klT.same kT0).ok x (List.mem_of_mem_take hx), fun x hx => klT.tx x (List.mem_of_mem_take hx), fun x hx => klT.ne x (List.mem_of_mem_take hx), by rw [List.length_take]; omega⟩
      have ek : (ksT.take 20).map (·.1) = onceL ((manyL ls 20).map wordRow) := by
        rw [List.map_take, keT, onceL_once ndT, ← List.map_take, many_take ls (show 20 ≤ 21 by decide), once20]
      refine ⟨u8, gT, ksT.take 20, rfl, rl20, some1 ek f20.ne, by rw [ek]; exact ta8.same kT0, fun H36 s36 => ⟨_, rfl, iteF ?_⟩⟩
      have s36' := kL0.trans (s32.trans (s33.trans (s34.trans (s35.trans (kT0.trans s36)))))
      have rl1 := rl1.same s36'
      have rl2 := rl2.same s36'
      have kl1 := kl1.same s36'
      have kl2 := kl2.same s36'
      -- equality
      refine ⟨_, rfl, R1, rs1, rfl, rl1, fun p5 ks5 H37 s37 np5 kl5 ke5 => ?_⟩
      refine ⟨_, rfl, R2, rs2, rfl, rl2.same s37, fun p6 ks6 H38 s38 np6 kl6 ke6 => ?_⟩
      have rows_ok : ∀ {ks : Rws}, (∀ x ∈ ks, TxR x.1) → SeqAt.shaped (.list ((ks.map (·.1)).map rowD)) = true := fun {ks} h => listD_ok fun r hr => by
        obtain ⟨y, hy, rfl⟩ := List.mem_map.mp hr
        exact h y hy
      refine ⟨_, _, .lst (SqL.of (kl5.same s38).at_) (rows_dp (kl5.same s38).ok), .lst (SqL.of kl6.at_) (rows_dp kl6.ok), rows_ok kl5.tx, rows_ok kl6.tx, ?_⟩
      refine name_go ?_
      rw [PyData.eqv, eqvAll_inj eqv_row, ke5, ke6]
      have s38' := s37.trans s38
      have rl1 := rl1.same s38'
      have rl2 := rl2.same s38'
      have kl1 := kl1.same s38'
      have kl2 := kl2.same s38'
      obtain ⟨dx1, tu1, nu1, rsk1, a1, a2, a3, a4⟩ := id kl1
      obtain ⟨dx2, tu2, nu2, rsk2, b1, b2, b3, b4⟩ := id kl2
      have txa : ∀ r ∈ onceL (rs1.map (·.1)), TxR r := fun r hr => by
        obtain ⟨y, hy, rfl⟩ := List.mem_map.mp (onceL_sub r hr)
        exact rl1.tx y hy
      have txb : ∀ r ∈ onceL (rs2.map (·.1)), TxR r := fun r hr => by
        obtain ⟨y, hy, rfl⟩ := List.mem_map.mp (onceL_sub r hr)
        exact rl2.tx y hy
      refine ⟨_, rfl, _, rfl, k1, dx1, _, k2, dx2, _, rfl, rfl, a1, b1, k1, k2, _, rfl, kl1, txa, .inl ⟨_, kl2, txb, ?_⟩⟩
      refine ⟨_, rfl, _, _, rfl, _, rfl, ?_⟩
      rw [decide_eq_true rfl]
      refine iteF ?_
      -- the same kind made again
      refine ⟨_, rfl, _, rfl, R1, rs1, rfl, rl1.at_, rl1.ok, d1.lo, d1.hi, d1.all, fun k3 H39 s39 kl3 => ?_⟩
      have rl1 := rl1.same s39
      have rl2 := rl2.same s39
      have kl1 := kl1.same s39
      have kl2 := kl2.same s39
      have a1 := s39 _ _ a1
      obtain ⟨dx3, tu3, nu3, rsk3, c1, c2, c3, c4⟩ := id kl3
      refine ⟨k1, dx1, _, k3, dx3, _, rfl, rfl, a1, c1, k1, k3, _, rfl, kl1, txa, .inl ⟨_, kl3, txa, ?_⟩⟩
      refine ⟨_, _, rfl, _, rfl, ?_⟩
      rw [decide_eq_true rfl, decide_eq_true rfl]
      refine iteF ?_
      -- no list is a kind
      refine ⟨_, rfl, _, rfl, k1, dx1, _, R1, _, rfl, rfl, a1, rl1.at_, k1, R1, _, rfl, kl1, txa, .inr ⟨_, rl1.at_, ?_⟩⟩
      refine ⟨_, rfl, iteF ?_⟩
      -- the kinds stay
      refine ⟨_, rfl, line_small (by show 2 ≤ 16777216; decide), fun v1 nv1 => ?_⟩
      have kv1 := same_new (o := .tup [.str "kind", .ref k1]) nv1
      refine ⟨_, rfl, R1, rs1, rfl, rl1.same kv1, fun p7 ks7 H40 s40 np7 kl7 ke7 => ?_⟩
      refine ⟨v1, p7, ks7, rfl, kl7, some1 ke7 fa.ne, by rw [ke7]; exact .inr ⟨fa.big, k1, s40 _ _ upd_same, (kl1.same kv1).same s40⟩, fun H41 s41 => ⟨true, rfl, iteT ?_⟩⟩
      have s41' := kv1.trans (s40.trans s41)
      refine ⟨_, rfl, line_small (by show 2 ≤ 16777216; decide), fun v2 nv2 => ?_⟩
      have kv2 := same_new (o := .tup [.str "kind", .ref k2]) nv2
      refine ⟨_, rfl, R2, rs2, rfl, (rl2.same s41').same kv2, fun p8 ks8 H42 s42 np8 kl8 ke8 => ?_⟩
      exact ⟨v2, p8, ks8, rfl, kl8, some1 ke8 fb.ne, by rw [ke8]; exact .inr ⟨fb.big, k2, s42 _ _ upd_same, ((kl2.same s41').same kv2).same s42⟩, fun H43 s43 => q H43⟩
end
end K04

set_option autoImplicit false
set_option maxErrors 4
namespace K04
open PySem PySem.Spec PyProof.Rows L2 Tl
section
variable {P : Program} {w : World} {K : PySem.W.Frag} {mg : Str → Option Value} {base : Heap} {NC KC BK C : Addr}
set_option maxHeartbeats 40000000 in
theorem law_b {f : Addr} {cdv : Value} {A : Around} {outer : List Env} {s : Shared} {H0 : Hp} {E : XK} {tt : TS} (N : Nms mg) (gK : mg "Kind" = some (.ref KC)) (Z : Parts P w K mg base NC KC BK C) (hr : Room 12 (A.deeper (envOfC "law" (defScope s_law) s.heap.objs.size f cdv)))
    (TC : PSs (cxOf CX0 P w K mg base lN "law" (defScope s_law) f cdv A outer s H0 E).nox ((defBody s_law).drop 16) tt ∧
      ∀ (D : Ends) (a b c p R1 R2 k1 k2 pp R3 pg : Addr) (t : Nat) (ls : List Nat) (rs1 rs2 : Rws) (H27 : Hp), Ltr ls → Drw rs1 → Drw rs2 → Std KC b c p R1 R2 k1 k2 ls rs1 rs2 H27 → (∀ H', D.rt (.bl true) H') → tt D (sC a b p R1 R2 k1 k2 pp R3 pg t) H27) :
    ∃ tt : TS, PSs (cxOf CX0 P w K mg base lN "law" (defScope s_law) f cdv A outer s H0 E).nox ((defBody s_law).drop 8) tt ∧
    ∀ (D : Ends) (a b c p R1 R2 k1 k2 : Addr) (t : Nat) (ls : List Nat) (rs1 rs2 : Rws) (H12 : Hp), Ltr ls → Drw rs1 → Drw rs2 → 1 ≤ t → t ≤ 9 → Std KC b c p R1 R2 k1 k2 ls rs1 rs2 H12 → (∀ H', D.rt (.bl true) H') → tt D (sB a b p R1 R2 k1 k2 t) H12 := by
  obtain ⟨fBa, fdBa, GBa, gBa, kBa, bBa⟩ := Z.bag
  obtain ⟨fDr, fdDr, GDr, gDr, kDr, bDr⟩ := Z.draw
  obtain ⟨fLe, fdLe, GLe, gLe, kLe, bLe⟩ := Z.letters
  obtain ⟨fRo, fdRo, GRo, gRo, kRo, bRo⟩ := Z.rows
  obtain ⟨fKi, fdKi, GKi, gKi, kKi, bKi⟩ := Z.kind
  obtain ⟨fFl, fdFl, GFl, gFl, kFl, bFl⟩ := Z.flag
  obtain ⟨fKe, fdKe, GKe, gKe, kKe, bKe⟩ := Z.kept
  obtain ⟨fPr, fdPr, GPr, gPr, kPr, bPr⟩ := Z.product
  obtain ⟨fPo, fdPo, GPo, gPo, kPo, bPo⟩ := Z.power
  obtain ⟨fTo, fdTo, GTo, gTo, kTo, bTo⟩ := Z.told
  obtain ⟨fRi, fdRi, GRi, gRi, kRi, bRi⟩ := Z.right
  obtain ⟨fWo, fdWo, GWo, gWo, kWo, bWo⟩ := Z.wordrow
  obtain ⟨fPl, fdPl, GPl, gPl, kPl, bPl⟩ := Z.plus
  obtain ⟨fEi, fdEi, GEi, gEi, kEi, bEi⟩ := Z.either
  obtain ⟨fTi, fdTi, GTi, gTi, kTi, bTi⟩ := Z.times
  obtain ⟨fGi, fdGi, GGi, gGi, kGi, bGi⟩ := Z.given
  obtain ⟨fW, fdW, SW, GW, bW⟩ := Z.words
  obtain ⟨fE, fdE, ME, GE, bE⟩ := Z.eq
  have nd := sc_law.nd
  have r1 := hr.mono (show 1 ≤ 12 by decide)
  have r2 := hr.mono (show 2 ≤ 12 by decide)
  have r3 := hr.mono (show 3 ≤ 12 by decide)
  have r4 := hr.mono (show 4 ≤ 12 by decide)
  have r8 := hr.mono (show 8 ≤ 12 by decide)
  have r9 := hr.mono (show 9 ≤ 12 by decide)
  have r12 := hr
  refine ⟨_, (pss_cons (ps_if (pt_not (pt_val (pe_call GRi r2 (by rfl) gRi kRi bRi .nil pass0 (pa_cons (pe_call GTo r12 (by rfl) gTo kTo bTo .nil pass0 (pa_cons (pe_glob (v := .ref fEi) (by rfl) gEi rfl) (pa_cons (pv 6) (pa_cons (pv 7) pa_nil)))) (pa_cons (pe_call GKe r1 (by rfl) gKe kKe bKe .nil pass0 (pa_cons (pe_op op_cat (pv 3) (pv 4)) pa_nil)) pa_nil))))) (pss_one (ps_ret pe_bl)) pss_nil)
      (pss_cons (ps_set (i := 8) nd rfl (by first | exact .inl rfl | exact .inr rfl) (pe_call GPo r3 (by rfl) gPo kPo bPo .nil pass0 (pa_cons (pv 3) (pa_cons (pv 5) pa_nil))))
      (pss_cons (ps_if (pt_not (pt_val (pe_call GRi r2 (by rfl) gRi kRi bRi .nil pass0 (pa_cons (pe_call GTo r12 (by rfl) gTo kTo bTo .nil pass0 (pa_cons (pe_glob (v := .ref fTi) (by rfl) gTi rfl) (pa_cons (pv 6) (pa_cons (pv 5) pa_nil)))) (pa_cons (pv 8) pa_nil))))) (pss_one (ps_ret pe_bl)) pss_nil)
      (pss_cons (ps_if (pt_not (pt_val (pe_call GRi r2 (by rfl) gRi kRi bRi .nil pass0 (pa_cons (pe_call GTo r12 (by rfl) gTo kTo bTo .nil pass0 (pa_cons (pe_glob (v := .ref fTi) (by rfl) gTi rfl) (pa_cons (pv 5) (pa_cons (pv 6) pa_nil)))) (pa_cons (pv 8) pa_nil))))) (pss_one (ps_ret pe_bl)) pss_nil)
      (pss_cons (ps_set (i := 9) nd rfl (by first | exact .inl rfl | exact .inr rfl) (pe_call GWo r2 (by rfl) gWo kWo bWo .nil pass0 (pa_cons (pv 1) (pa_cons (pv 2) pa_nil))))
      (pss_cons (ps_set (i := 12) nd rfl (by first | exact .inl rfl | exact .inr rfl) (pe_call GKe r1 (by rfl) gKe kKe bKe .nil pass0 (pa_cons (pe_lc (own := [("_law_word", 10)]) (g := gName 10) (tt := tYes) rfl nd (pi_list (pv 9)) (blkOk_by (N := ["_law_script", "_law_bag_here", "_law_letters_here", "_law_rows_here", "_law_others", "_law_times_here", "_law_one", "_law_two", "_law_power_here", "_law_words", "_law_word", "_law_sign", "_law_given_here", "_law_k", "_law_j", "_law_many", "_law_twenty", "_law_full", "_law_same"]) (sc := defScope s_law) (by decide +kernel)) (fun _ _ _ _ _ => pg_name (i := 10) nd rfl (Or.inl rfl)) (fun _ _ _ _ _ => pts_nil)
          (fun _ _ _ _ _ => pe_callTy (T := "tuple") (r := rTupO K) call_tuple_of (by rfl) N.tuple (by decide +kernel) (pa_cons (pe_lc (own := [("_law_sign", 11)]) (g := gName 11) (tt := tYes) rfl nd (pi_str (pv 10)) (blkOk_by (N := ["_law_script", "_law_bag_here", "_law_letters_here", "_law_rows_here", "_law_others", "_law_times_here", "_law_one", "_law_two", "_law_power_here", "_law_words", "_law_word", "_law_sign", "_law_given_here", "_law_k", "_law_j", "_law_many", "_law_twenty", "_law_full", "_law_same"]) (sc := wordSc) (by decide +kernel)) (fun _ _ _ _ _ => pg_name (i := 11) nd rfl (Or.inl rfl)) (fun _ _ _ _ _ => pts_nil)
            (fun _ _ _ _ _ => pe_tup (pa_cons (pv 11) (pa_cons pe_int (pa_cons pe_int pa_nil))))) pa_nil))) pa_nil)))
      (pss_cons (ps_if (pt_not (pt_val (pe_call GRi r2 (by rfl) gRi kRi bRi .nil pass0 (pa_cons (pe_call GTo r12 (by rfl) gTo kTo bTo .nil pass0 (pa_cons (pe_glob (v := .ref fGi) (by rfl) gGi rfl) (pa_cons (pv 9) (pa_cons (pe_non) pa_nil)))) (pa_cons (pv 12) pa_nil))))) (pss_one (ps_ret pe_bl)) pss_nil)
      (pss_cons (ps_if (pt_not (pt_val (pe_call GRi r2 (by rfl) gRi kRi bRi .nil pass0 (pa_cons (pe_call GTo r12 (by rfl) gTo kTo bTo .nil pass0 (pa_cons (pe_glob (v := .ref fGi) (by rfl) gGi rfl) (pa_cons (pe_callTy (T := "tuple") (r := rTupO K) call_tuple_of (by rfl) N.tuple (by decide +kernel) (pa_cons (pv 9) pa_nil)) (pa_cons (pe_non) pa_nil)))) (pa_cons (pv 12) pa_nil))))) (pss_one (ps_ret pe_bl)) pss_nil)
      TC.1)))))))), ?_⟩
  · intro DD a b c p R1 R2 k1 k2 t ls rs1 rs2 H12 hl d1 d2 t1 t9 S q
    obtain ⟨B12, ep12, pb, pc, R1b, R1c, R2b, R2c, rl1, rl2, kl1, kl2⟩ := S
    obtain ⟨len, ndl, sub⟩ := id hl
    have fa := d1.fine
    have fb := d2.fine
    have la2 := d1.two
    have ne1 := d1.ne
    have l1' := d1.hi
    have l2' := d2.hi
    -- side by side
    refine ⟨_, rfl, _, rfl, fEi, .ref k1, .ref k2, fdEi, _, 9, _, onceL (rs1.map (·.1) ++ rs2.map (·.1)), rfl, kEi, by decide, GEi, bEi, fun Q' E' e q' => ⟨k1, k2, _, _, rfl, kl1, kl2, fa, fb, by unfold Out; rw [once_or]; exact ⟨e, q'⟩⟩, fun u2 H13 s13 ta2 => ?_⟩
    have rl1 := rl1.same s13
    have rl2 := rl2.same s13
    refine ⟨_, rfl, _, rfl, R1, R2, rowsV rs1, rowsV rs2, rfl, rfl, rl1.at_, rl2.at_, line_small (by rw [rowsV_len, rowsV_len]; omega), fun g3 ng3 => ?_⟩
    have kg3 := same_new (o := .lst (rowsV rs1 ++ rowsV rs2)) ng3
    have rlS : RL (upd H13 g3 (.lst (rowsV rs1 ++ rowsV rs2))) g3 (rs1 ++ rs2) := ⟨by
      rw [upd_same]
      unfold rowsV
      rw [List.map_append], fun x hx => (List.mem_append.mp hx).elim ((rl1.same kg3).ok x) ((rl2.same kg3).ok x), fun x hx => (List.mem_append.mp hx).elim (rl1.tx x) (rl2.tx x), fun x hx => (List.mem_append.mp hx).elim (rl1.ne x) (rl2.ne x), by rw [List.length_append]; omega⟩
    refine ⟨g3, rs1 ++ rs2, rfl, rlS, fun p4 ks4 H14 s14 np4 klD keD => ?_⟩
    rw [List.map_append] at keD
    have neO : onceL (rs1.map (·.1) ++ rs2.map (·.1)) ≠ [] := onceL_ne fun z => ne1 (List.append_eq_nil_iff.mp z).1
    refine ⟨u2, p4, ks4, rfl, klD, some1 keD neO, by rw [keD]; exact (ta2.same kg3).same s14, fun H15 s15 => ⟨_, rfl, iteF ?_⟩⟩
    have sm := kg3.trans (s14.trans s15)
    have rl1 := rl1.same sm
    have rl2 := rl2.same sm
    have sm := s13.trans sm
    have kl1 := kl1.same sm
    have kl2 := kl2.same sm
    have B15 := B12.same sm
    have ep15 := sm _ _ ep12
    clear sm
    -- its power
    refine ⟨_, rfl, _, rfl, R1, rs1, t, rfl, rl1, t1, t9, fa, la2, fun pp ksP H16 s16 npp klP keP => ?_⟩
    refine name_go ?_
    dsimp only
    have neW : powP (onceL (rs1.map (·.1))) (t - 1) ≠ [] := by
      have key : ∀ i, powP (onceL (rs1.map (·.1))) i ≠ [] := by
        intro i
        induction i with
        | zero => exact fa.ne
        | succ i ih =>
          unfold powP
          split
          · exact ih
          · refine onceL_ne fun z => ?_
            have z := congrArg List.length z
            rw [prodL_len] at z
            have h1 : 0 < (powP (onceL (rs1.map (·.1))) i).length := List.length_pos_iff.mpr ih
            have h2 : 0 < (onceL (rs1.map (·.1))).length := List.length_pos_iff.mpr fa.ne
            have := Nat.mul_pos h1 h2
            simp at z
            omega
      exact key _
    have pw := powP_of fa (t - 1)
    have tell : ∀ {H0 : Hp}, KindL KC H0 k1 (onceL (rs1.map (·.1))) → ∀ (Q' : VK) (E' : XK), (bigL (powP (onceL (rs1.map (·.1))) (t - 1)) = true → Raised H0 E' BK) → (bigL (powP (onceL (rs1.map (·.1))) (t - 1)) = false → ∀ (k : Addr) (H' : Hp), Same H0 H' → KindL KC H' k (powP (onceL (rs1.map (·.1))) (t - 1)) → Q' (.ref k) H') → spMulK KC BK [.ref k1, .int (t : Nat)] H0 Q' E' := fun {H0} kl Q' E' e q' =>
      ⟨k1, t, _, rfl, t1, t9, kl, fa, fun no => e (pw.2 no), fun r er k H' s' kr => by
        have e1 := pw.1 r er
        refine q' ?_ k H' s' ?_
        · rw [e1]
          exact (powM_fine fa er).big
        · rw [e1]
          exact kr⟩
    have kl1 := kl1.same s16
    refine ⟨_, rfl, _, rfl, fTi, .ref k1, .int (t : Nat), fdTi, _, 11, _, powP (onceL (rs1.map (·.1))) (t - 1), rfl, kTi, by decide, GTi, bTi, fun Q' E' e q' => ⟨k1, t, .inl rfl, tell kl1 Q' E' e q'⟩, fun u3 H17 s17 ta3 => ?_⟩
    refine ⟨_, rfl, u3, pp, ksP, rfl, klP.same s17, some1 keP neW, by rw [keP]; exact ta3, fun H18 s18 => ⟨_, rfl, iteF ?_⟩⟩
    have sm := s17.trans s18
    have kl1 := kl1.same sm
    refine ⟨_, rfl, _, rfl, fTi, .int (t : Nat), .ref k1, fdTi, _, 11, _, powP (onceL (rs1.map (·.1))) (t - 1), rfl, kTi, by decide, GTi, bTi, fun Q' E' e q' => ⟨k1, t, .inr rfl, tell kl1 Q' E' e q'⟩, fun u4 H19 s19 ta4 => ?_⟩
    refine ⟨_, rfl, u4, pp, ksP, rfl, (klP.same sm).same s19, some1 keP neW, by rw [keP]; exact ta4, fun H20 s20 => ⟨_, rfl, iteF ?_⟩⟩
    have sm2 := s19.trans s20
    have kl1 := kl1.same sm2
    have sm3 := s16.trans (sm.trans sm2)
    have rl1 := rl1.same sm3
    have rl2 := rl2.same sm3
    have kl2 := kl2.same sm3
    have B20 := B15.same sm3
    have ep20 := sm3 _ _ ep15
    clear sm sm2 sm3 tell
    -- the drawn words
    refine ⟨_, rfl, _, rfl, b, c, p, ls, rfl, B20, ep20, pb, pc, len, sub, fun R3 ws H21 B21 K21 n3 R3b R3c eW w1 w20 wg => ?_⟩
    refine name_go ?_
    dsimp only
    have B21' := B21
    have rl1 := rl1.kept B20 K21 R1b R1c
    have rl2 := rl2.kept B20 K21 R2b R2c
    have kl1 := kl1.kept B20 K21
    have kl2 := kl2.kept B20 K21
    have ep21 := K21 _ _ ep20 pb pc
    refine seq_go (asg_go (call1_go ?_))
    refine lc_given (fun S h => ⟨_, rfl, h⟩) eW (by omega) wg (fun _ => rfl) (fun l H2 S g h => tup_wd g (fun Q' q => ⟨_, rfl, q⟩) (fun _ => rfl) (fun n H4 Q' h => ⟨_, rfl, line_small (by show 3 ≤ 16777216; decide), fun p hp => h p hp⟩) h) fun DG rsG H22 s22 rlG eG => ?_
    refine ⟨DG, rsG, rfl, rlG, fun pg ksG H23 s23 npg klG keG => ?_⟩
    refine name_go ?_
    -- the kind of these words
    refine ⟨_, rfl, fGi, .ref R3, .non, fdGi, _, 9, _, onceL (ws.map wordRow), rfl, kGi, by decide, GGi, bGi, fun Q' E' e q' => ⟨.ref R3, rfl, R3, ws, rfl, .inl (s23 _ _ (s22 _ _ eW)), w1, w20, wg, e, q'⟩, fun u5 H24 s24 ta5 => ?_⟩
    have neG : onceL (ws.map wordRow) ≠ [] := onceL_ne fun z => by
      have z := congrArg List.length z
      rw [List.length_map] at z
      simp at z
      rw [z] at w1
      cases w1
    rw [eG] at keG
    refine ⟨_, rfl, u5, pg, ksG, rfl, klG.same s24, some1 keG neG, by rw [keG]; exact ta5, fun H25 s25 => ⟨_, rfl, iteF ?_⟩⟩
    have sm := s24.trans s25
    have eW := sm _ _ (s23 _ _ (s22 _ _ eW))
    have klG := klG.same sm
    refine ⟨_, rfl, R3, wordsV ws, rfl, .inl ⟨SqL.of eW, fun v hv => ?_⟩⟩
    have kv := same_new (o := .tup (wordsV ws)) hv
    refine ⟨fGi, .ref v, .non, fdGi, _, 9, _, onceL (ws.map wordRow), rfl, kGi, by decide, GGi, bGi, fun Q' E' e q' => ⟨.ref v, rfl, v, ws, rfl, .inr upd_same, w1, w20, wg, e, q'⟩, fun u6 H26 s26 ta6 => ?_⟩
    refine ⟨_, rfl, u6, pg, ksG, rfl, (klG.same kv).same s26, some1 keG neG, by rw [keG]; exact ta6, fun H27 s27 => ⟨_, rfl, iteF ?_⟩⟩
    have sm2 := s22.trans (s23.trans (sm.trans (kv.trans (s26.trans s27))))
    have rl1 := rl1.same sm2
    have rl2 := rl2.same sm2
    have kl1 := kl1.same sm2
    have kl2 := kl2.same sm2
    exact TC.2 DD a b c p R1 R2 k1 k2 pp R3 pg t ls rs1 rs2 H27 hl d1 d2 ⟨B21.same sm2, sm2 _ _ ep21, pb, pc, R1b, R1c, R2b, R2c, rl1, rl2, kl1, kl2⟩ q
end
end K04

set_option autoImplicit false
set_option maxErrors 4
namespace K04
open PySem PySem.Spec PyProof.Rows L2 Tl
section
variable {P : Program} {w : World} {K : PySem.W.Frag} {mg : Str → Option Value} {base : Heap} {NC KC BK C : Addr}
def spLaw (K : PySem.W.Frag) : Sp := fun vs H Q _ => ∃ (a : Addr) (ns : List Int), vs = [.ref a] ∧ SqL K H a (ns.map V.int) ∧ ns.length ≤ 63 ∧ ∀ H', Q (.bl true) H'
set_option maxHeartbeats 40000000 in
theorem ok_law {f : Addr} {fd : FuncData} (F : FnP K "law" "law" s_law f fd) (N : Nms mg) (KK : KindC K KC) (gK : mg "Kind" = some (.ref KC)) (nf : PySem.W.notFirst K KC (.type "list") = true) (Z : Parts P w K mg base NC KC BK C) : FnOk P w K mg base CX0 13 f fd ["_law_script"] (spLaw K) := by
  refine F.ok sc_law (fun vs H Q E h => ?_) (fun cdv A outer s H vs Q E hr h => ?_)
  · obtain ⟨a, ns, rfl, _⟩ := h
    rfl
  obtain ⟨tC, TC⟩ := law_c (f := f) (cdv := cdv) (A := A) (outer := outer) (s := s) (H0 := H) (E := E) N KK gK nf Z hr
  obtain ⟨tB, TB⟩ := law_b N gK Z hr TC
  obtain ⟨fBa, fdBa, GBa, gBa, kBa, bBa⟩ := Z.bag
  obtain ⟨fDr, fdDr, GDr, gDr, kDr, bDr⟩ := Z.draw
  obtain ⟨fLe, fdLe, GLe, gLe, kLe, bLe⟩ := Z.letters
  obtain ⟨fRo, fdRo, GRo, gRo, kRo, bRo⟩ := Z.rows
  obtain ⟨fKi, fdKi, GKi, gKi, kKi, bKi⟩ := Z.kind
  obtain ⟨fFl, fdFl, GFl, gFl, kFl, bFl⟩ := Z.flag
  obtain ⟨fKe, fdKe, GKe, gKe, kKe, bKe⟩ := Z.kept
  obtain ⟨fPr, fdPr, GPr, gPr, kPr, bPr⟩ := Z.product
  obtain ⟨fPo, fdPo, GPo, gPo, kPo, bPo⟩ := Z.power
  obtain ⟨fTo, fdTo, GTo, gTo, kTo, bTo⟩ := Z.told
  obtain ⟨fRi, fdRi, GRi, gRi, kRi, bRi⟩ := Z.right
  obtain ⟨fWo, fdWo, GWo, gWo, kWo, bWo⟩ := Z.wordrow
  obtain ⟨fPl, fdPl, GPl, gPl, kPl, bPl⟩ := Z.plus
  obtain ⟨fEi, fdEi, GEi, gEi, kEi, bEi⟩ := Z.either
  obtain ⟨fTi, fdTi, GTi, gTi, kTi, bTi⟩ := Z.times
  obtain ⟨fGi, fdGi, GGi, gGi, kGi, bGi⟩ := Z.given
  obtain ⟨fW, fdW, SW, GW, bW⟩ := Z.words
  obtain ⟨fE, fdE, ME, GE, bE⟩ := Z.eq
  have nd := sc_law.nd
  have r1 := hr.mono (show 1 ≤ 12 by decide)
  have r2 := hr.mono (show 2 ≤ 12 by decide)
  have r3 := hr.mono (show 3 ≤ 12 by decide)
  have r4 := hr.mono (show 4 ≤ 12 by decide)
  have r8 := hr.mono (show 8 ≤ 12 by decide)
  have r9 := hr.mono (show 9 ≤ 12 by decide)
  have r12 := hr
  · obtain ⟨a, ns, rfl, hS, hlen, q⟩ := h
    refine ⟨_, PSs.nox (pss_cons (ps_set (i := 1) nd rfl (by first | exact .inl rfl | exact .inr rfl) (pe_call GBa r1 (by rfl) gBa kBa bBa .nil pass0 (pa_cons (pv 0) pa_nil)))
      (pss_cons (ps_set (i := 2) nd rfl (by first | exact .inl rfl | exact .inr rfl) (pe_call GLe r2 (by rfl) gLe kLe bLe .nil pass0 (pa_cons (pv 1) (pa_cons pe_int pa_nil))))
      (pss_cons (ps_set (i := 3) nd rfl (by first | exact .inl rfl | exact .inr rfl) (pe_call GRo r4 (by rfl) gRo kRo bRo .nil pass0 (pa_cons (pv 1) (pa_cons (pe_slice (r := rSlL K) sl_list (pv 2) po_none (po_some pe_int)) pa_nil))))
      (pss_cons (ps_set (i := 4) nd rfl (by first | exact .inl rfl | exact .inr rfl) (pe_call GRo r4 (by rfl) gRo kRo bRo .nil pass0 (pa_cons (pv 1) (pa_cons (pe_slice (r := rSlL K) sl_list (pv 2) (po_some pe_int) po_none) pa_nil))))
      (pss_cons (ps_set (i := 5) nd rfl (by first | exact .inl rfl | exact .inr rfl) (pe_op op_add pe_int (pe_call GDr r1 (by rfl) gDr kDr bDr .nil pass0 (pa_cons (pv 1) (pa_cons pe_int pa_nil)))))
      (pss_cons (ps_set (i := 6) nd rfl (by first | exact .inl rfl | exact .inr rfl) (pe_call GKi r9 (by rfl) gKi kKi bKi .nil pass0 (pa_cons (pv 3) pa_nil)))
      (pss_cons (ps_set (i := 7) nd rfl (by first | exact .inl rfl | exact .inr rfl) (pe_call GKi r9 (by rfl) gKi kKi bKi .nil pass0 (pa_cons (pv 4) pa_nil)))
      (pss_cons (ps_if (pt_not (pt_val (pe_call GRi r2 (by rfl) gRi kRi bRi .nil pass0 (pa_cons (pe_call GTo r12 (by rfl) gTo kTo bTo .nil pass0 (pa_cons (pe_glob (v := .ref fPl) (by rfl) gPl rfl) (pa_cons (pv 6) (pa_cons (pv 7) pa_nil)))) (pa_cons (pe_call GPr r2 (by rfl) gPr kPr bPr .nil pass0 (pa_cons (pe_call GKe r1 (by rfl) gKe kKe bKe .nil pass0 (pa_cons (pv 3) pa_nil)) (pa_cons (pe_call GKe r1 (by rfl) gKe kKe bKe .nil pass0 (pa_cons (pv 4) pa_nil)) pa_nil))) pa_nil))))) (pss_one (ps_ret pe_bl)) pss_nil)
      TB.1)))))))), ?_⟩
    -- the bag, the letters
    refine ⟨_, rfl, a, ns, rfl, hS, hlen, fun b c H1 hb hc B1 s1 => ?_⟩
    refine ⟨_, rfl, b, c, 3, rfl, B1, by decide, by decide, fun p ls H2 len ndl sub hp ep B2 K2 => ?_⟩
    have len : ls.length = 3 := by omega
    have pb := B1.neB hp
    have pc := B1.neC hp
    -- the drawn alternatives
    refine ⟨_, rfl, _, rfl, 2, rfl, p, _, rfl, SqL.of ep, fun g1 ng1 => ?_⟩
    rw [show cutV (lettersV ls) none (some (2 : Int)) = lettersV (ls.take 2) from cut_to ls 2]
    have kg1 := same_new (o := .lst (lettersV (ls.take 2))) ng1
    have two1 : Two b c g1 (ls.take 2) (upd H2 g1 (.lst (lettersV (ls.take 2)))) := ⟨B2.same kg1, upd_same, B2.neB ng1, B2.neC ng1, by rw [List.length_take]; omega, List.Nodup.sublist (List.take_sublist _ _) ndl, fun n hn => sub n (List.mem_of_mem_take hn)⟩
    refine ⟨b, c, g1, ls.take 2, rfl, two1, fun R1 rs1 H3 B3 K3 n1 R1b R1c eR1 at1 l1 l1' gr1 => ?_⟩
    refine name_go ?_
    dsimp only
    have ep3 := K3 _ _ (kg1 _ _ ep) pb pc
    refine ⟨_, rfl, _, rfl, 1, rfl, p, _, rfl, SqL.of ep3, fun g2 ng2 => ?_⟩
    rw [show cutV (lettersV ls) (some (1 : Int)) none = lettersV (ls.drop 1) from cut_from ls 1]
    have kg2 := same_new (o := .lst (lettersV (ls.drop 1))) ng2
    have two2 : Two b c g2 (ls.drop 1) (upd H3 g2 (.lst (lettersV (ls.drop 1)))) := ⟨B3.same kg2, upd_same, B3.neB ng2, B3.neC ng2, by rw [List.length_drop]; omega, List.Nodup.sublist (List.drop_sublist _ _) ndl, fun n hn => sub n (List.mem_of_mem_drop hn)⟩
    refine ⟨b, c, g2, ls.drop 1, rfl, two2, fun R2 rs2 H4 B4 K4 n2 R2b R2c eR2 at2 l2 l2' gr2 => ?_⟩
    refine name_go ?_
    dsimp only
    refine ⟨_, rfl, b, c, 9, rfl, B4, by decide, by decide, fun d H5 d0 d9 B5 K5 => ⟨_, _, rfl, rfl, ?_⟩⟩
    obtain ⟨d, rfl⟩ := Int.eq_ofNat_of_zero_le d0
    refine name_go ?_
    dsimp only
    generalize ht : 1 + d = t
    rw [show (1 : Int) + ((d : Nat) : Int) = ((t : Nat) : Int) by omega]
    have t1 : 1 ≤ t := by omega
    have t9 : t ≤ 9 := by omega
    have rl1 : RL H5 R1 rs1 := (((rl_rows eR1 at1 l1' gr1).same kg2).kept (B3.same kg2) K4 R1b R1c).kept B4 K5 R1b R1c
    have rl2 : RL H5 R2 rs2 := (rl_rows eR2 at2 l2' gr2).kept B4 K5 R2b R2c
    have ep5 := K5 _ _ (K4 _ _ (kg2 _ _ ep3) pb pc) pb pc
    -- the kinds
    refine ⟨_, rfl, R1, rs1, rfl, rl1.at_, rl1.ok, l1, l1', gr1, fun k1 H6 s6 kl1 => ?_⟩
    refine ⟨_, rfl, R2, rs2, rfl, s6 _ _ rl2.at_, rl2.ok.same s6, l2, l2', gr2, fun k2 H7 s7 kl2 => ?_⟩
    have rl1 := rl1.same (s6.trans s7)
    have rl2 := rl2.same (s6.trans s7)
    have kl1 := kl1.same s7
    have B7 := B5.same (s6.trans s7)
    have ep7 := (s6.trans s7) _ _ ep5
    have d1 : Drw rs1 := ⟨l1, l1', gr1⟩
    have d2 : Drw rs2 := ⟨l2, l2', gr2⟩
    have fa := d1.fine
    have fb := d2.fine
    have la2 := d1.two
    have lb2 := d2.two
    have neP : onceL (prodL (onceL (rs1.map (·.1))) (onceL (rs2.map (·.1)))) ≠ [] := onceL_ne fun z => by
      have z := congrArg List.length z
      rw [prodL_len] at z
      have h1 : 0 < (onceL (rs1.map (·.1))).length := List.length_pos_iff.mpr fa.ne
      have h2 : 0 < (onceL (rs2.map (·.1))).length := List.length_pos_iff.mpr fb.ne
      have := Nat.mul_pos h1 h2
      simp at z
      omega
    -- their sum
    refine ⟨_, rfl, _, rfl, fPl, .ref k1, .ref k2, fdPl, _, 9, _, onceL (prodL (onceL (rs1.map (·.1))) (onceL (rs2.map (·.1)))), rfl, kPl, by decide, GPl, bPl, fun Q' E' e q' => ⟨k1, k2, _, _, rfl, kl1, kl2, fa, fb, e, q'⟩, fun u1 H8 s8 ta => ?_⟩
    refine ⟨_, rfl, R1, rs1, rfl, rl1.same s8, fun p1 ks1 H9 s9 np1 klA keA => ?_⟩
    refine ⟨_, rfl, R2, rs2, rfl, (rl2.same s8).same s9, fun p2 ks2 H10 s10 np2 klB keB => ?_⟩
    have lA : ks1.length ≤ 2 := by
      have z := congrArg List.length keA
      rw [List.length_map] at z
      omega
    have lB : ks2.length ≤ 2 := by
      have z := congrArg List.length keB
      rw [List.length_map] at z
      omega
    have wA : ∀ x ∈ ks1, x.1.length ≤ 1000 := fun x hx => by
      have z := fa.row (r := x.1) (by rw [← keA]; exact List.mem_map.mpr ⟨x, hx, rfl⟩)
      omega
    have wB : ∀ x ∈ ks2, x.1.length ≤ 1000 := fun x hx => by
      have z := fb.row (r := x.1) (by rw [← keB]; exact List.mem_map.mpr ⟨x, hx, rfl⟩)
      omega
    refine ⟨p1, p2, ks1, ks2, rfl, klA.same s10, klB, by have := Nat.mul_le_mul lA lB; omega, wA, wB, fun p3 ks3 H11 s11 np3 klC keC => ?_⟩
    rw [keA, keB] at keC
    refine ⟨u1, p3, ks3, rfl, klC, some1 keC neP, by rw [keC]; exact ((ta.same s9).same s10).same s11, fun H12 s12 => ⟨_, rfl, iteF ?_⟩⟩
    have sm := s8.trans (s9.trans (s10.trans (s11.trans s12)))
    have rl1 := rl1.same sm
    have rl2 := rl2.same sm
    have kl1 := kl1.same sm
    have kl2 := kl2.same sm
    have B12 := B7.same sm
    have ep12 := sm _ _ ep7
    exact TB.2 _ a b c p R1 R2 k1 k2 t ls rs1 rs2 H12 ⟨len, ndl, sub⟩ d1 d2 t1 t9 ⟨B12, ep12, pb, pc, R1b, R1c, R2b, R2c, rl1, rl2, kl1, kl2⟩ q
end
end K04

set_option autoImplicit false
set_option maxErrors 4
namespace K04
open PySem PySem.Spec PyProof.Rows L2 Tl
theorem list_off {K : PySem.W.Frag} {C : Addr} (c : Cls K C) (ty : PySem.W.typeIn K (.ref C) = some (.type "type")) (sub : PySem.W.subIn K (.type "list") (.ref C) = some false) : PySem.W.kitOne K (.type "list") (.ref C) = some false := by
  obtain ⟨cd, h1, _⟩ := PySem.W.any_some c.hd
  have unlike : (Value.type "list" == Value.ref C) = false := Bool.eq_false_iff.mpr fun q => by cases beq_iff_eq.mp q
  unfold PySem.W.kitOne
  rw [unlike, if_neg (by decide)]
  show (if ((PySem.W.clsIn K C).isSome && PySem.W.typeIn K (.ref C) == some (.type "type")) = true then PySem.W.subIn K (.type "list") (.ref C) else none) = some false
  rw [h1, ty, if_pos (by simp), sub]
theorem list_notFirst {K : PySem.W.Frag} {C : Addr} (sub : PySem.W.subIn K (.type "list") (.ref C) = some false) : PySem.W.notFirst K C (.type "list") = true := by
  unfold PySem.W.notFirst
  rw [sub]
  simp
set_option maxHeartbeats 40000000 in
theorem facts {P : Program} {w : World} {K : PySem.W.Frag} {h : Heap} {mg : Str → Option Value} {f : Addr} (X : K.In h) (G : h.Ns mainGlobals mg) (hfa : mg ("law" : Str) = some (.ref f)) (c : Tl.SaysS fa fn sd ex K) :
    ∃ fd : FuncData, (∀ (s : Shared) (v : Value), BindsTo s fd ⟨[v], []⟩ [("_law_script", v)]) ∧ ∀ base : Heap, K.In base → base.Ns mainGlobals mg → FnOk P w K mg base CX0 13 f fd ["_law_script"] (spLaw K) := by
  have c0 := c.d
  have hex := c.more
  obtain ⟨e_is_integer, F_is_integer⟩ := c0.def_ 0 (d := d_is_integer) rfl
  obtain ⟨e_is_integer_within, F_is_integer_within⟩ := c0.def_ 1 (d := d_is_integer_within) rfl
  obtain ⟨e_is_row, F_is_row⟩ := c0.def_ 2 (d := d_is_row) rfl
  obtain ⟨e_BadNumber_init_, F_BadNumber_init_⟩ := c0.def_ 3 (d := d_BadNumber_init_) rfl
  obtain ⟨e_Net_init_, F_Net_init_⟩ := c0.def_ 4 (d := d_Net_init_) rfl
  obtain ⟨e_places_by_char, F_places_by_char⟩ := c0.def_ 5 (d := d_places_by_char) rfl
  obtain ⟨e_place_count, F_place_count⟩ := c0.def_ 6 (d := d_place_count) rfl
  obtain ⟨e_run_net, F_run_net⟩ := c0.def_ 7 (d := d_run_net) rfl
  obtain ⟨e_renumbered, F_renumbered⟩ := c0.def_ 8 (d := d_renumbered) rfl
  obtain ⟨e_chained, F_chained⟩ := c0.def_ 9 (d := d_chained) rfl
  obtain ⟨e_side_by_side, F_side_by_side⟩ := c0.def_ 10 (d := d_side_by_side) rfl
  obtain ⟨e_Signs_init_, F_Signs_init_⟩ := c0.def_ 11 (d := d_Signs_init_) rfl
  obtain ⟨e_is_sign_text, F_is_sign_text⟩ := c0.def_ 12 (d := d_is_sign_text) rfl
  obtain ⟨e_is_signs, F_is_signs⟩ := c0.def_ 13 (d := d_is_signs) rfl
  obtain ⟨e_signs_of, F_signs_of⟩ := c0.def_ 14 (d := d_signs_of) rfl
  obtain ⟨e_Kind_init_, F_Kind_init_⟩ := c0.def_ 15 (d := d_Kind_init_) rfl
  obtain ⟨e_Kind_add_, F_Kind_add_⟩ := c0.def_ 16 (d := d_Kind_add_) rfl
  obtain ⟨e_Kind_or_, F_Kind_or_⟩ := c0.def_ 17 (d := d_Kind_or_) rfl
  obtain ⟨e_Kind_mul_, F_Kind_mul_⟩ := c0.def_ 18 (d := d_Kind_mul_) rfl
  obtain ⟨e_Kind_rmul_, F_Kind_rmul_⟩ := c0.def_ 19 (d := d_Kind_rmul_) rfl
  obtain ⟨e_Kind_eq_, F_Kind_eq_⟩ := c0.def_ 20 (d := d_Kind_eq_) rfl
  obtain ⟨e_Kindalternatives, F_Kindalternatives⟩ := c0.def_ 21 (d := d_Kindalternatives) rfl
  obtain ⟨e_are_bounds, F_are_bounds⟩ := c0.def_ 22 (d := d_are_bounds) rfl
  obtain ⟨e_is_short_text, F_is_short_text⟩ := c0.def_ 23 (d := d_is_short_text) rfl
  obtain ⟨e_without_repeats, F_without_repeats⟩ := c0.def_ 24 (d := d_without_repeats) rfl
  obtain ⟨e_is_too_large, F_is_too_large⟩ := c0.def_ 25 (d := d_is_too_large) rfl
  obtain ⟨e_alternative_net, F_alternative_net⟩ := c0.def_ 26 (d := d_alternative_net) rfl
  obtain ⟨e_l_bag, F_l_bag⟩ := c0.def_ 27 (d := d_l_bag) rfl
  obtain ⟨e_l_draw, F_l_draw⟩ := c0.def_ 28 (d := d_l_draw) rfl
  obtain ⟨e_l_alphabet, F_l_alphabet⟩ := c0.def_ 29 (d := d_l_alphabet) rfl
  obtain ⟨e_l_letters, F_l_letters⟩ := c0.def_ 30 (d := d_l_letters) rfl
  obtain ⟨e_l_signs, F_l_signs⟩ := c0.def_ 31 (d := d_l_signs) rfl
  obtain ⟨e_l_run, F_l_run⟩ := c0.def_ 32 (d := d_l_run) rfl
  obtain ⟨e_l_rows, F_l_rows⟩ := c0.def_ 33 (d := d_l_rows) rfl
  obtain ⟨e_l_kind, F_l_kind⟩ := c0.def_ 34 (d := d_l_kind) rfl
  obtain ⟨e_l_flag, F_l_flag⟩ := c0.def_ 35 (d := d_l_flag) rfl
  obtain ⟨e_l_kept, F_l_kept⟩ := c0.def_ 36 (d := d_l_kept) rfl
  obtain ⟨e_l_fits, F_l_fits⟩ := c0.def_ 37 (d := d_l_fits) rfl
  obtain ⟨e_l_product, F_l_product⟩ := c0.def_ 38 (d := d_l_product) rfl
  obtain ⟨e_l_power, F_l_power⟩ := c0.def_ 39 (d := d_l_power) rfl
  obtain ⟨e_l_told, F_l_told⟩ := c0.def_ 40 (d := d_l_told) rfl
  obtain ⟨e_l_plus, F_l_plus⟩ := c0.def_ 41 (d := d_l_plus) rfl
  obtain ⟨e_l_either, F_l_either⟩ := c0.def_ 42 (d := d_l_either) rfl
  obtain ⟨e_l_times, F_l_times⟩ := c0.def_ 43 (d := d_l_times) rfl
  obtain ⟨e_l_given, F_l_given⟩ := c0.def_ 44 (d := d_l_given) rfl
  obtain ⟨e_l_right, F_l_right⟩ := c0.def_ 45 (d := d_l_right) rfl
  obtain ⟨e_l_word_row, F_l_word_row⟩ := c0.def_ 46 (d := d_l_word_row) rfl
  obtain ⟨e_law, F_law⟩ := c0.def_ 47 (d := d_law) rfl
  obtain ⟨SR, e_Kindrun, F_Kindrun⟩ := c.st ⟨"Kind", "run", d_Kindrun⟩ List.mem_cons_self
  obtain ⟨SW, e_Kindwords, F_Kindwords⟩ := c.st ⟨"Kind", "words", d_Kindwords⟩ (List.mem_cons_of_mem _ List.mem_cons_self)
  have e := hfa.symm.trans (He.glo_ok X G (c0.fact 37 (f := .glo "law") rfl))
  cases e
  have b_is_integer := FunD.bindsN (ps := ["thing"]) F_is_integer fun _ _ _ _ _ _ us hl => match us, hl with | [_], _ => rfl
  have b_is_integer_within := FunD.bindsN (ps := ["thing", "low", "high"]) F_is_integer_within fun _ _ _ _ _ _ us hl => match us, hl with | [_, _, _], _ => rfl
  have b_is_row := FunD.bindsN (ps := ["thing"]) F_is_row fun _ _ _ _ _ _ us hl => match us, hl with | [_], _ => rfl
  have b_BadNumber_init_ := FunD.bindsN (ps := ["self", "number"]) F_BadNumber_init_ fun _ _ _ _ _ _ us hl => match us, hl with | [_, _], _ => rfl
  have b_Net_init_ := FunD.bindsN (ps := ["self", "chars", "follow", "exits"]) F_Net_init_ fun _ _ _ _ _ _ us hl => match us, hl with | [_, _, _, _], _ => rfl
  have b_places_by_char := FunD.bindsN (ps := ["chars"]) F_places_by_char fun _ _ _ _ _ _ us hl => match us, hl with | [_], _ => rfl
  have b_place_count := FunD.bindsN (ps := ["least", "most"]) F_place_count fun _ _ _ _ _ _ us hl => match us, hl with | [_, _], _ => rfl
  have b_run_net := FunD.bindsN (ps := ["signs", "least", "most"]) F_run_net fun _ _ _ _ _ _ us hl => match us, hl with | [_, _, _], _ => rfl
  have b_renumbered := FunD.bindsN (ps := ["places", "shift"]) F_renumbered fun _ _ _ _ _ _ us hl => match us, hl with | [_, _], _ => rfl
  have b_chained := FunD.bindsN (ps := ["nets"]) F_chained fun _ _ _ _ _ _ us hl => match us, hl with | [_], _ => rfl
  have b_side_by_side := FunD.bindsN (ps := ["nets"]) F_side_by_side fun _ _ _ _ _ _ us hl => match us, hl with | [_], _ => rfl
  have b_is_sign_text := FunD.bindsN (ps := ["thing"]) F_is_sign_text fun _ _ _ _ _ _ us hl => match us, hl with | [_], _ => rfl
  have b_is_signs := FunD.bindsN (ps := ["thing"]) F_is_signs fun _ _ _ _ _ _ us hl => match us, hl with | [_], _ => rfl
  have b_signs_of := FunD.bindsN (ps := ["thing"]) F_signs_of fun _ _ _ _ _ _ us hl => match us, hl with | [_], _ => rfl
  have b_Kind_init_ := FunD.bindsN (ps := ["self", "rows"]) F_Kind_init_ fun _ _ _ _ _ _ us hl => match us, hl with | [_, _], _ => rfl
  have b_Kind_add_ := FunD.bindsN (ps := ["self", "other"]) F_Kind_add_ fun _ _ _ _ _ _ us hl => match us, hl with | [_, _], _ => rfl
  have b_Kind_or_ := FunD.bindsN (ps := ["self", "other"]) F_Kind_or_ fun _ _ _ _ _ _ us hl => match us, hl with | [_, _], _ => rfl
  have b_Kind_mul_ := FunD.bindsN (ps := ["self", "other"]) F_Kind_mul_ fun _ _ _ _ _ _ us hl => match us, hl with | [_, _], _ => rfl
  have b_Kind_rmul_ := FunD.bindsN (ps := ["self", "other"]) F_Kind_rmul_ fun _ _ _ _ _ _ us hl => match us, hl with | [_, _], _ => rfl
  have b_Kind_eq_ := FunD.bindsN (ps := ["self", "other"]) F_Kind_eq_ fun _ _ _ _ _ _ us hl => match us, hl with | [_, _], _ => rfl
  have b_Kindalternatives := FunD.bindsN (ps := ["self"]) F_Kindalternatives fun _ _ _ _ _ _ us hl => match us, hl with | [_], _ => rfl
  have b_are_bounds := FunD.bindsN (ps := ["least", "most"]) F_are_bounds fun _ _ _ _ _ _ us hl => match us, hl with | [_, _], _ => rfl
  have b_is_short_text := FunD.bindsN (ps := ["thing"]) F_is_short_text fun _ _ _ _ _ _ us hl => match us, hl with | [_], _ => rfl
  have b_without_repeats := FunD.bindsN (ps := ["rows"]) F_without_repeats fun _ _ _ _ _ _ us hl => match us, hl with | [_], _ => rfl
  have b_is_too_large := FunD.bindsN (ps := ["rows"]) F_is_too_large fun _ _ _ _ _ _ us hl => match us, hl with | [_], _ => rfl
  have b_alternative_net := FunD.bindsN (ps := ["row"]) F_alternative_net fun _ _ _ _ _ _ us hl => match us, hl with | [_], _ => rfl
  have b_l_bag := FunD.bindsN (ps := ["_law_script"]) F_l_bag fun _ _ _ _ _ _ us hl => match us, hl with | [_], _ => rfl
  have b_l_draw := FunD.bindsN (ps := ["_law_bag_here", "_law_limit"]) F_l_draw fun _ _ _ _ _ _ us hl => match us, hl with | [_, _], _ => rfl
  have b_l_alphabet := FunD.bindsN (ps := []) F_l_alphabet fun _ _ _ _ _ _ us hl => match us, hl with | [], _ => rfl
  have b_l_letters := FunD.bindsN (ps := ["_law_bag_here", "_law_many"]) F_l_letters fun _ _ _ _ _ _ us hl => match us, hl with | [_, _], _ => rfl
  have b_l_signs := FunD.bindsN (ps := ["_law_bag_here", "_law_letters_here"]) F_l_signs fun _ _ _ _ _ _ us hl => match us, hl with | [_, _], _ => rfl
  have b_l_run := FunD.bindsN (ps := ["_law_bag_here", "_law_letters_here"]) F_l_run fun _ _ _ _ _ _ us hl => match us, hl with | [_, _], _ => rfl
  have b_l_rows := FunD.bindsN (ps := ["_law_bag_here", "_law_letters_here"]) F_l_rows fun _ _ _ _ _ _ us hl => match us, hl with | [_, _], _ => rfl
  have b_l_kind := FunD.bindsN (ps := ["_law_rows_here"]) F_l_kind fun _ _ _ _ _ _ us hl => match us, hl with | [_], _ => rfl
  have b_l_flag := FunD.bindsN (ps := ["_law_actual", "_law_due"]) F_l_flag fun _ _ _ _ _ _ us hl => match us, hl with | [_, _], _ => rfl
  have b_l_kept := FunD.bindsN (ps := ["_law_rows_here"]) F_l_kept fun _ _ _ _ _ _ us hl => match us, hl with | [_], _ => rfl
  have b_l_fits := FunD.bindsN (ps := ["_law_rows_here"]) F_l_fits fun _ _ _ _ _ _ us hl => match us, hl with | [_], _ => rfl
  have b_l_product := FunD.bindsN (ps := ["_law_rows_here", "_law_others"]) F_l_product fun _ _ _ _ _ _ us hl => match us, hl with | [_, _], _ => rfl
  have b_l_power := FunD.bindsN (ps := ["_law_rows_here", "_law_times_here"]) F_l_power fun _ _ _ _ _ _ us hl => match us, hl with | [_, _], _ => rfl
  have b_l_told := FunD.bindsN (ps := ["_law_made", "_law_one", "_law_other"]) F_l_told fun _ _ _ _ _ _ us hl => match us, hl with | [_, _, _], _ => rfl
  have b_l_plus := FunD.bindsN (ps := ["_law_one", "_law_other"]) F_l_plus fun _ _ _ _ _ _ us hl => match us, hl with | [_, _], _ => rfl
  have b_l_either := FunD.bindsN (ps := ["_law_one", "_law_other"]) F_l_either fun _ _ _ _ _ _ us hl => match us, hl with | [_, _], _ => rfl
  have b_l_times := FunD.bindsN (ps := ["_law_one", "_law_other"]) F_l_times fun _ _ _ _ _ _ us hl => match us, hl with | [_, _], _ => rfl
  have b_l_given := FunD.bindsN (ps := ["_law_one", "_law_other"]) F_l_given fun _ _ _ _ _ _ us hl => match us, hl with | [_, _], _ => rfl
  have b_l_right := FunD.bindsN (ps := ["_law_told_here", "_law_rows_here"]) F_l_right fun _ _ _ _ _ _ us hl => match us, hl with | [_, _], _ => rfl
  have b_l_word_row := FunD.bindsN (ps := ["_law_bag_here", "_law_letters_here"]) F_l_word_row fun _ _ _ _ _ _ us hl => match us, hl with | [_, _], _ => rfl
  have b_Kindwords := FunD.bindsN (ps := ["texts"]) F_Kindwords fun _ _ _ _ _ _ us hl => match us, hl with | [_], _ => rfl
  have bI1 := FunD.binds1 (ps := ["self", "text"]) F_Signs_init_ 2 1 (by intro z; cases z) rfl fun _ _ _ _ _ _ _ us its hu hi => match us, its, hu, hi with | [_, _], [_], _, _ => ⟨_, rfl, rfl⟩
  have bI0 := FunD.binds1 (ps := ["self", "text"]) F_Signs_init_ 1 0 (by intro z; cases z) rfl fun _ _ _ _ _ _ _ us its hu hi => match us, its, hu, hi with | [_], [_], _, _ => ⟨_, rfl, rfl⟩
  have bR3 := FunD.binds1 (ps := ["signs", "least", "most"]) F_Kindrun 3 2 (by intro z; cases z) rfl fun _ _ _ _ _ _ _ us its hu hi => match us, its, hu, hi with | [_, _, _], [_, _], _, _ => ⟨_, rfl, rfl⟩
  obtain ⟨x0, x1⟩ := He.ba hex
  obtain ⟨x0, x2⟩ := He.ba x0
  obtain ⟨x3, x4⟩ := He.ba x0
  obtain ⟨x5, x6⟩ := He.ba x2
  obtain ⟨x1, x7⟩ := He.ba x1
  have SeS := seesB_ok x3
  have SeK := seesB_ok x4
  have Ap := apartB_ok x5
  have Er := errsB_ok x1
  have own := of_decide_eq_true x7
  have N : Nms mg := ⟨(He.free_ok X G (c0.fact 71 (f := .free "isinstance") rfl)), (He.free_ok X G (c0.fact 72 (f := .free "int") rfl)), (He.free_ok X G (c0.fact 73 (f := .free "bool") rfl)), (He.free_ok X G (c0.fact 74 (f := .free "list") rfl)), (He.free_ok X G (c0.fact 75 (f := .free "tuple") rfl)), (He.free_ok X G (c0.fact 76 (f := .free "str") rfl)), (He.free_ok X G (c0.fact 77 (f := .free "all") rfl)), (He.free_ok X G (c0.fact 78 (f := .free "any") rfl)), (He.free_ok X G (c0.fact 79 (f := .free "sum") rfl)), (He.free_ok X G (c0.fact 80 (f := .free "len") rfl)), (He.free_ok X G (c0.fact 81 (f := .free "enumerate") rfl)), (He.free_ok X G (c0.fact 82 (f := .free "range") rfl)), (He.free_ok X G (c0.fact 83 (f := .free "max") rfl)), (He.free_ok X G (c0.fact 84 (f := .free "sorted") rfl))⟩
  have Co : Cons mg := ⟨(He.int_ok X G (c0.fact 85 (f := .int "START" 1) rfl)), (He.int_ok X G (c0.fact 86 (f := .int "MOST_ALTERNATIVES" 20) rfl)), (He.int_ok X G (c0.fact 87 (f := .int "MOST_RUNS" 20) rfl)), (He.int_ok X G (c0.fact 88 (f := .int "MOST_PLACES" 120) rfl)), (He.int_ok X G (c0.fact 89 (f := .int "MOST_TEXTS" 20) rfl)), (He.int_ok X G (c0.fact 90 (f := .int "LONGEST_TEXT" 20) rfl)), (He.int_ok X G (c0.fact 91 (f := .int "HIGHEST_BOUND" 40) rfl)), (He.int_ok X G (c0.fact 92 (f := .int "MOST_OPERANDS" 9) rfl))⟩
  obtain ⟨tS, gS⟩ := He.str_ok X G (c0.fact 93 (f := .str "SIGNS" " !\"#$&'()*+,-./0123456789:;<=>?@ABCDEFGHIJKLMNOPQRSTUVWXYZ[\\]^_`abcdefghijklmnopqrstuvwxyz{|}~") rfl)
  have eS : mg ("SIGNS" : Str) = some (.str (tx alpha) tS) := gS.trans (congrArg (fun z => some (Value.str z tS)) (by decide +kernel))
  have T : Txt K mg (He.ga K "Signs") := { cl := He.cls_ok (c0.fact 39 (f := .cls "Signs") rfl), nS := (He.noat_ok (c0.fact 42 (f := .noat "Signs" "signs") rfl)), gC := (He.glo_ok X G (c0.fact 38 (f := .glo "Signs") rfl)), sgn := ⟨tS, eS⟩, kStr := Ap.no _ (by decide), kOwn := Ap.own, sStr := Ap.off _ (by decide), c1 := SeS.c1, c2 := SeS.c2, c3 := SeS.c3, c4 := SeS.c4 }
  have TN : NetC K (He.ga K "Net") := ⟨He.cls_ok (c0.fact 44 (f := .cls "Net") rfl), (He.noat_ok (c0.fact 47 (f := .noat "Net" "chars") rfl)), (He.noat_ok (c0.fact 48 (f := .noat "Net" "follow") rfl)), (He.noat_ok (c0.fact 49 (f := .noat "Net" "exits") rfl)), (He.noat_ok (c0.fact 50 (f := .noat "Net" "stands_for") rfl))⟩
  have TK : KindC K (He.ga K "Kind") := ⟨He.cls_ok (c0.fact 52 (f := .cls "Kind") rfl), (He.noat_ok (c0.fact 61 (f := .noat "Kind" "rows") rfl)), (He.noat_ok (c0.fact 62 (f := .noat "Kind" "net") rfl))⟩
  have gK := (He.glo_ok X G (c0.fact 51 (f := .glo "Kind") rfl))
  have gBK := (He.glo_ok X G (c0.fact 69 (f := .glo "BadKind") rfl))
  have PB : Plain K mg "BadKind" (He.ga K "BadKind") := by
    obtain ⟨z1, z2, z3, z4⟩ := He.exc_ok (c0.fact 70 (f := .exc "BadKind") rfl)
    exact ⟨gBK, z1, z2, z3, z4⟩
  have MI := He.mkr_ok (c0.fact 40 (f := .mkr "Signs") rfl)
  have MN := He.mkr_ok (c0.fact 45 (f := .mkr "Net") rfl)
  have MK := He.mkr_ok (c0.fact 53 (f := .mkr "Kind") rfl)
  have mAdd := (He.meth_ok (c0.fact 55 (f := .meth "Kind" "__add__") rfl))
  have mOr := (He.meth_ok (c0.fact 56 (f := .meth "Kind" "__or__") rfl))
  have mMul := (He.meth_ok (c0.fact 57 (f := .meth "Kind" "__mul__") rfl))
  have mRmul := (He.meth_ok (c0.fact 58 (f := .meth "Kind" "__rmul__") rfl))
  have mEq := (He.meth_ok (c0.fact 59 (f := .meth "Kind" "__eq__") rfl))
  have mA := (He.meth_ok (c0.fact 60 (f := .meth "Kind" "alternatives") rfl))
  have MC := mulB_ok (K := K) (C := (He.ga K "Kind")) x6 ⟨mMul.at_, mMul.fn⟩ ⟨mRmul.at_, mRmul.fn⟩
  have subL : PySem.W.subIn K (.type "list") (.ref (He.ga K "Kind")) = some false := (MC.known "list" (by decide)).2.1
  refine ⟨e_law, fun s v => FunD.bindsA (ps := ["_law_script"]) F_law (fun _ _ _ _ _ _ us hl => match us, hl with | [_], _ => rfl) s [v] rfl, fun base _ _ => ?_⟩
  have c_is_integer : Can P w K mg base CX0 "is_integer" ["thing"] 1 (spIsInt K) := ⟨_, e_is_integer, ok_is_integer F_is_integer N, (He.glo_ok X G (c0.fact 0 (f := .glo "is_integer") rfl)), F_is_integer.kp, b_is_integer⟩
  have c_is_integer_within : Can P w K mg base CX0 "is_integer_within" ["thing", "low", "high"] 2 (spWithin K) := ⟨_, e_is_integer_within, ok_within F_is_integer_within c_is_integer, (He.glo_ok X G (c0.fact 1 (f := .glo "is_integer_within") rfl)), F_is_integer_within.kp, b_is_integer_within⟩
  have c_is_row : Can P w K mg base CX0 "is_row" ["thing"] 1 (spRow K) := ⟨_, e_is_row, ok_row F_is_row N, (He.glo_ok X G (c0.fact 2 (f := .glo "is_row") rfl)), F_is_row.kp, b_is_row⟩
  have c_place_count : Can P w K mg base CX0 "place_count" ["least", "most"] 1 spPc := ⟨_, e_place_count, ok_place_count F_place_count N, (He.glo_ok X G (c0.fact 4 (f := .glo "place_count") rfl)), F_place_count.kp, b_place_count⟩
  have c_renumbered : Can P w K mg base CX0 "renumbered" ["places", "shift"] 1 spRen := ⟨_, e_renumbered, ok_ren F_renumbered Co.start, (He.glo_ok X G (c0.fact 6 (f := .glo "renumbered") rfl)), F_renumbered.kp, b_renumbered⟩
  have c_places_by_char : Can P w K mg base CX0 "places_by_char" ["chars"] 1 spPbc := ⟨_, e_places_by_char, ok_pbc F_places_by_char N, (He.glo_ok X G (c0.fact 3 (f := .glo "places_by_char") rfl)), F_places_by_char.kp, b_places_by_char⟩
  have cNet : CanNet P w K mg base (He.ga K "Net") 2 := ok_net_init F_Net_init_ TN MN (He.glo_ok X G (c0.fact 43 (f := .glo "Net") rfl)) b_Net_init_ c_places_by_char
  have c_run_net : Can P w K mg base CX0 "run_net" ["signs", "least", "most"] 4 (spRunNet (He.ga K "Net")) := ⟨_, e_run_net, ok_run_net F_run_net N c_place_count cNet, (He.glo_ok X G (c0.fact 5 (f := .glo "run_net") rfl)), F_run_net.kp, b_run_net⟩
  have c_chained : Can P w K mg base CX0 "chained" ["nets"] 4 (spNets (He.ga K "Net") chainL) := ⟨_, e_chained, ok_chained F_chained N Co.start TN c_renumbered cNet, (He.glo_ok X G (c0.fact 7 (f := .glo "chained") rfl)), F_chained.kp, b_chained⟩
  have c_side_by_side : Can P w K mg base CX0 "side_by_side" ["nets"] 4 (spNets (He.ga K "Net") sideL) := ⟨_, e_side_by_side, ok_side F_side_by_side N TN c_renumbered cNet, (He.glo_ok X G (c0.fact 8 (f := .glo "side_by_side") rfl)), F_side_by_side.kp, b_side_by_side⟩
  have c_alternative_net : Can P w K mg base CX0 "alternative_net" ["row"] 5 (spAlt (He.ga K "Net")) := ⟨_, e_alternative_net, ok_alt F_alternative_net c_chained c_run_net, (He.glo_ok X G (c0.fact 16 (f := .glo "alternative_net") rfl)), F_alternative_net.kp, b_alternative_net⟩
  have c_without_repeats : Can P w K mg base CX0 "without_repeats" ["rows"] 1 spWr := ⟨_, e_without_repeats, ok_without F_without_repeats N, (He.glo_ok X G (c0.fact 14 (f := .glo "without_repeats") rfl)), F_without_repeats.kp, b_without_repeats⟩
  have c_is_too_large : Can P w K mg base CX0 "is_too_large" ["rows"] 2 spToo := ⟨_, e_is_too_large, ok_too F_is_too_large N Co c_place_count, (He.glo_ok X G (c0.fact 15 (f := .glo "is_too_large") rfl)), F_is_too_large.kp, b_is_too_large⟩
  have c_is_sign_text : Can P w K mg base CX0 "is_sign_text" ["thing"] 1 (spTextA K (He.ga K "Signs")) := ⟨_, e_is_sign_text, ok_is_sign_text F_is_sign_text T N, (He.glo_ok X G (c0.fact 9 (f := .glo "is_sign_text") rfl)), F_is_sign_text.kp, b_is_sign_text⟩
  have c_is_signs : Can P w K mg base CX0 "is_signs" ["thing"] 2 (spSigns K (He.ga K "Signs")) := ⟨_, e_is_signs, ok_is_signs F_is_signs T N c_is_sign_text, (He.glo_ok X G (c0.fact 10 (f := .glo "is_signs") rfl)), F_is_signs.kp, b_is_signs⟩
  have cMk : CanMk P w K mg base (He.ga K "Signs") := by
    obtain ⟨fT, fdT, GT, gT, kT, bT⟩ := c_is_sign_text
    obtain ⟨d1, v1, b1⟩ := bI1
    obtain ⟨d0, v0, b0⟩ := bI0
    have e1 : d1 = [] := by cases v1; rfl
    subst e1
    exact ⟨_, e_Signs_init_, MI, ok_init F_Signs_init_ T GT gT kT bT, b1, d0, v0, b0⟩
  have c_signs_of : Can P w K mg base CX0 "signs_of" ["thing"] 4 (spOf (He.ga K "Signs")) := ⟨_, e_signs_of, ok_signs_of F_signs_of T N cMk, (He.glo_ok X G (c0.fact 11 (f := .glo "signs_of") rfl)), F_signs_of.kp, b_signs_of⟩
  have c_are_bounds : Can P w K mg base CX0 "are_bounds" ["least", "most"] 3 (spBounds K) := ⟨_, e_are_bounds, ok_bounds F_are_bounds Co c_is_integer_within, (He.glo_ok X G (c0.fact 12 (f := .glo "are_bounds") rfl)), F_are_bounds.kp, b_are_bounds⟩
  have c_is_short_text : Can P w K mg base CX0 "is_short_text" ["thing"] 2 (spShort K (He.ga K "Signs")) := ⟨_, e_is_short_text, ok_short F_is_short_text N Co c_is_sign_text, (He.glo_ok X G (c0.fact 13 (f := .glo "is_short_text") rfl)), F_is_short_text.kp, b_is_short_text⟩
  have cKind : CanKind P w K mg base (He.ga K "Net") (He.ga K "Kind") (He.ga K "BadKind") := ⟨_, e_Kind_init_, MK, gK, b_Kind_init_, ok_kinit F_Kind_init_ TK PB c_without_repeats c_is_too_large c_side_by_side c_alternative_net⟩
  have gRun := ok_run F_Kindrun PB cKind c_is_signs c_are_bounds c_signs_of
  have gWords := ok_words (C := (He.ga K "Signs")) F_Kindwords N Co PB cKind c_is_row c_is_short_text
  have gAlts := ok_alts (P := P) (w := w) (mg := mg) (base := base) F_Kindalternatives TK
  have gAdd := ok_add F_Kind_add_ TK cKind
  have gOr := ok_or F_Kind_or_ N TK SeK T.gC Ap.dS cKind
  have gMul := ok_mulK F_Kind_mul_ N Co MC.self ⟨mAdd.at_, mAdd.fn⟩ gAdd b_Kind_add_ c_is_integer_within
  have gRmul := ok_rmulK F_Kind_rmul_ gMul b_Kind_mul_ MC
  have gEq := ok_eqK (P := P) (w := w) (base := base) F_Kind_eq_ N TK SeK gK own (list_off TK.cl SR.ty subL)
  obtain ⟨d3, v3, b3⟩ := bR3
  have e3 : d3 = [] := by cases v3; rfl
  subst e3
  have O : Ops P w K mg base (He.ga K "Net") (He.ga K "Kind") (He.ga K "BadKind") (He.ga K "Signs") := ⟨MC.self, TK, gK, ⟨_, _, SR, gRun, b3⟩, ⟨_, _, ⟨mAdd.at_, mAdd.fn⟩, gAdd, b_Kind_add_⟩, ⟨_, _, ⟨mOr.at_, mOr.fn⟩, gOr, b_Kind_or_⟩⟩
  have c_l_bag : Can P w K mg base CX0 "_law_bag" ["_law_script"] 1 (spBag K) := ⟨_, e_l_bag, ok_bag F_l_bag N.list, (He.glo_ok X G (c0.fact 17 (f := .glo "_law_bag") rfl)), F_l_bag.kp, b_l_bag⟩
  have c_l_draw : Can P w K mg base CX0 "_law_draw" ["_law_bag_here", "_law_limit"] 1 spDraw := ⟨_, e_l_draw, ok_draw F_l_draw N.len N.int, (He.glo_ok X G (c0.fact 18 (f := .glo "_law_draw") rfl)), F_l_draw.kp, b_l_draw⟩
  have c_l_alphabet : Can P w K mg base CX0 "_law_alphabet" [] 1 spAlpha := ⟨_, e_l_alphabet, ok_alpha F_l_alphabet, (He.glo_ok X G (c0.fact 19 (f := .glo "_law_alphabet") rfl)), F_l_alphabet.kp, b_l_alphabet⟩
  have c_l_letters : Can P w K mg base CX0 "_law_letters" ["_law_bag_here", "_law_many"] 2 spLetters := by
    obtain ⟨fA, fdA, GA, gA, kA, bA⟩ := c_l_alphabet
    obtain ⟨fD, fdD, GD, gD, kD, bD⟩ := c_l_draw
    exact ⟨_, e_l_letters, ok_letters F_l_letters N.list N.len N.range GA gA kA bA GD gD kD bD, (He.glo_ok X G (c0.fact 20 (f := .glo "_law_letters") rfl)), F_l_letters.kp, b_l_letters⟩
  have c_l_signs : Can P w K mg base CX0 "_law_signs" ["_law_bag_here", "_law_letters_here"] 2 spSigns2 := ⟨_, e_l_signs, ok_signs2 F_l_signs N c_l_draw, (He.glo_ok X G (c0.fact 21 (f := .glo "_law_signs") rfl)), F_l_signs.kp, b_l_signs⟩
  have c_l_run : Can P w K mg base CX0 "_law_run" ["_law_bag_here", "_law_letters_here"] 3 spRunD := ⟨_, e_l_run, ok_runD F_l_run N c_l_signs c_l_draw, (He.glo_ok X G (c0.fact 22 (f := .glo "_law_run") rfl)), F_l_run.kp, b_l_run⟩
  have c_l_rows : Can P w K mg base CX0 "_law_rows" ["_law_bag_here", "_law_letters_here"] 4 spRowsD := ⟨_, e_l_rows, ok_rowsD F_l_rows N c_l_run c_l_draw, (He.glo_ok X G (c0.fact 23 (f := .glo "_law_rows") rfl)), F_l_rows.kp, b_l_rows⟩
  have c_l_kind : Can P w K mg base CX0 "_law_kind" ["_law_rows_here"] 9 (spKindD (He.ga K "Kind")) := ⟨_, e_l_kind, ok_kindD F_l_kind O, (He.glo_ok X G (c0.fact 24 (f := .glo "_law_kind") rfl)), F_l_kind.kp, b_l_kind⟩
  have c_l_flag : Can P w K mg base CX0 "_law_flag" ["_law_actual", "_law_due"] 1 spFlag := ⟨_, e_l_flag, ok_flag F_l_flag, (He.glo_ok X G (c0.fact 25 (f := .glo "_law_flag") rfl)), F_l_flag.kp, b_l_flag⟩
  have c_l_kept : Can P w K mg base CX0 "_law_kept" ["_law_rows_here"] 1 spKept := ⟨_, e_l_kept, ok_kept F_l_kept, (He.glo_ok X G (c0.fact 26 (f := .glo "_law_kept") rfl)), F_l_kept.kp, b_l_kept⟩
  have c_l_fits : Can P w K mg base CX0 "_law_fits" ["_law_rows_here"] 1 spFits := ⟨_, e_l_fits, ok_fits F_l_fits N, (He.glo_ok X G (c0.fact 27 (f := .glo "_law_fits") rfl)), F_l_fits.kp, b_l_fits⟩
  have c_l_product : Can P w K mg base CX0 "_law_product" ["_law_rows_here", "_law_others"] 2 spProd := ⟨_, e_l_product, ok_prod F_l_product c_l_kept, (He.glo_ok X G (c0.fact 28 (f := .glo "_law_product") rfl)), F_l_product.kp, b_l_product⟩
  have c_l_power : Can P w K mg base CX0 "_law_power" ["_law_rows_here", "_law_times_here"] 3 spPower := ⟨_, e_l_power, ok_power F_l_power N c_l_kept c_l_fits c_l_product, (He.glo_ok X G (c0.fact 29 (f := .glo "_law_power") rfl)), F_l_power.kp, b_l_power⟩
  have c_l_told : Can P w K mg base CX0 "_law_told" ["_law_made", "_law_one", "_law_other"] 12 (spTold P w K mg base (He.ga K "Kind") (He.ga K "BadKind")) := ⟨_, e_l_told, ok_told F_l_told gBK Er.mA, (He.glo_ok X G (c0.fact 30 (f := .glo "_law_told") rfl)), F_l_told.kp, b_l_told⟩
  have c_l_right : Can P w K mg base CX0 "_law_right" ["_law_told_here", "_law_rows_here"] 2 (spRight (He.ga K "Kind")) := ⟨_, e_l_right, ok_right F_l_right N TK gK SeK own c_l_fits mA gAlts b_Kindalternatives, (He.glo_ok X G (c0.fact 35 (f := .glo "_law_right") rfl)), F_l_right.kp, b_l_right⟩
  have c_l_word_row : Can P w K mg base CX0 "_law_word_row" ["_law_bag_here", "_law_letters_here"] 2 spWordRow := ⟨_, e_l_word_row, ok_word_row F_l_word_row N c_l_draw, (He.glo_ok X G (c0.fact 36 (f := .glo "_law_word_row") rfl)), F_l_word_row.kp, b_l_word_row⟩
  have c_l_plus : Can P w K mg base (L2N.CX P w) "_law_plus" ["_law_one", "_law_other"] 9 (spTwo (He.ga K "Kind") (He.ga K "BadKind") prodL) := ⟨_, e_l_plus, ok_plus F_l_plus MC.self ⟨mAdd.at_, mAdd.fn⟩ gAdd b_Kind_add_, (He.glo_ok X G (c0.fact 31 (f := .glo "_law_plus") rfl)), F_l_plus.kp, b_l_plus⟩
  have c_l_either : Can P w K mg base (L2N.CX P w) "_law_either" ["_law_one", "_law_other"] 9 (spTwo (He.ga K "Kind") (He.ga K "BadKind") orL) := ⟨_, e_l_either, ok_either F_l_either MC.self ⟨mOr.at_, mOr.fn⟩ gOr b_Kind_or_, (He.glo_ok X G (c0.fact 32 (f := .glo "_law_either") rfl)), F_l_either.kp, b_l_either⟩
  have c_l_times : Can P w K mg base (L2N.CX P w) "_law_times" ["_law_one", "_law_other"] 11 (spTimesK (He.ga K "Kind") (He.ga K "BadKind")) := ⟨_, e_l_times, ok_timesK F_l_times gMul b_Kind_mul_ gRmul b_Kind_rmul_ MC, (He.glo_ok X G (c0.fact 33 (f := .glo "_law_times") rfl)), F_l_times.kp, b_l_times⟩
  have c_l_given : Can P w K mg base (L2N.CX P w) "_law_given" ["_law_one", "_law_other"] 9 (spGiven (He.ga K "Kind") (He.ga K "BadKind")) := ⟨_, e_l_given, ok_given F_l_given gK SW gWords b_Kindwords, (He.glo_ok X G (c0.fact 34 (f := .glo "_law_given") rfl)), F_l_given.kp, b_l_given⟩
  exact ok_law (NC := (He.ga K "Net")) (BK := (He.ga K "BadKind")) (C := (He.ga K "Signs")) F_law N TK gK (list_notFirst subL) ⟨c_l_bag, c_l_draw, c_l_letters, c_l_rows, c_l_kind, c_l_flag, c_l_kept, c_l_product, c_l_power, c_l_told, c_l_right, c_l_word_row, c_l_plus, c_l_either, c_l_times, c_l_given, ⟨_, _, SW, gWords, b_Kindwords⟩, ⟨_, _, ⟨mEq.at_, mEq.fn⟩, gEq, b_Kind_eq_⟩⟩
end K04

open PySem PySem.W PySem.Calls PyProof.Rows
set_option maxRecDepth 100000 in
set_option maxHeartbeats 0 in
theorem PySem.Challenge.cw_townlines_k04_kind_operators_holds : PySem.Challenge.rw_townlines_k04_kind_operators.Holds := by
  w_on; o_law
  refine HandSHeadRun.head_any (r := OpenLaw.row PySem.Challenge.rw_townlines_k04_kind_operators) (q := view (OpenLaw.row PySem.Challenge.rw_townlines_k04_kind_operators).prog [70]) (H := K04.hk) (ob := K04.ob) (M := 60000) (loose := K04.loose) (d := HandSHeadRun.topDef (OpenLaw.row PySem.Challenge.rw_townlines_k04_kind_operators).prog 70) (kwd := []) K04.ob_eq
    (by kernel_rfl) (fun s => by kernel_rfl) K04.run (by kernel_rfl) (by kernel_rfl) (by kernel_rfl) (by rfl) (by first | assumption | decide +kernel) (by decide +kernel) ⟨rfl, rfl, rfl, rfl, rfl, by decide +kernel⟩ ?hw ?hc
  case hw => w_witness2
  case hc =>
    refine L2.walk_ofE (l := PySem.Challenge.rw_townlines_k04_kind_operators) (n := 63) (k := 13) (x := "_law_script") (CX := L2.CX0) rfl (by decide) (by kernel_rfl) ⟨rfl, by decide, by decide⟩ ?F (fun _ _ _ _ z => z)
    intro w mg fa h Y G hmg0
    obtain ⟨K, KX, c⟩ := Y
    have hmg : mg ("law" : PySem.Str) = some (.ref fa) := by
      have e : (HandSHeadRun.topDef (OpenLaw.row PySem.Challenge.rw_townlines_k04_kind_operators).prog 70).name = ("law" : PySem.Str) := by kernel_rfl
      rw [← e]
      exact hmg0
    obtain ⟨fd, hb, hF⟩ := K04.facts (P := (PySem.Challenge.rw_townlines_k04_kind_operators).prog) (w := w) KX G hmg c
    exact ⟨K, fd, K04.spLaw K, KX, hb, fun H a ns hl _ hS => ⟨a, ns, rfl, hS, hl, fun _ => rfl⟩, hF⟩

