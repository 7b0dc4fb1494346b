import PyProof.Rows.All
import Wide.All
import OpenK.AllK
import Wide.FinOn
import HandS.ForMost
import HandS.ForExc
import HandS.ExcOwn
import HandS.ExcCtx
import HandS.Defaults
import HandS.HeadHook1
import HandS.HeadHook2
import HandS.HeadHook3
import HandS.HeadHook4
import HandS.IsInst
import KE.KOpsOwn
import KE.KxMul
import KE.KIsAll
import KE.KTryMore
import HandS.ExcInit
import HandS.ExcIs
import HandS.HotCalls
import HandS.ExcField
import KE.KExcIs
import KE.KStateDown
import HandS.Head0
import HandS.Head1
import HandS.Head2
import HandS.HeadEnd
import PyProof.StrBlock2
import HandS.Wide
import HandS.Codes
import HandS.Walk
import HandS.WideBits
import HandS.Text
import HandS.Records
import HandS.Comp
import HandS.Dict
import HandS.DictComp
import KE.KDictKeyed
import KE.KeyNested
import KE.KDictSum
import KE.KDictCopyH
import HandS.RevTup
import PyProof.MeetsIn
import PyProof.Rows.StrBool
import KE.DataEq
import PySem.Challenge.RW_townlines_k06_kinds_refuse
set_option Elab.async false
set_option linter.all false
set_option maxRecDepth 100000
set_option maxHeartbeats 8000000
set_option autoImplicit false
set_option maxErrors 4
/-! Static methods of own classes: what the head reads of them, C.m(..). -/
namespace Tl
open PySem PySem.Spec PyProof.Rows L2
/-- C.m is a staticmethod at p over the def at f -/
structure Stat (K : PySem.W.Frag) (C : Addr) (m : Str) (f : Addr) : Prop where
  ga : PySem.W.specialIn K (.ref C) "__getattribute__" = some (some (.builtin "type.__getattribute__"))
  ty : PySem.W.typeIn K (.ref C) = some (.type "type")
  rd : PySem.W.readsIn K C (.type "type") = true
  fd : ∃ (p : Addr) (rest : List Value), PySem.W.findCls K (.ref C) (.type "type") m = some (.get (.builtin "staticmethod.__get__") (.ref p) .none (.ref C)) ∧ PySem.W.recIn K p "staticmethod" = some (.ref f :: rest)
  kp : PySem.W.keepIn K (.ref f) = true
def statP : Option PySem.W.CFound → Option Addr
  | some (.get (.builtin g) (.ref p) .none _) => if g = "staticmethod.__get__" then some p else none
  | _ => none
/-- where the staticmethod, its def stand -/
def pAd (K : PySem.W.Frag) (C : Addr) (m : Str) : Addr := (statP (PySem.W.findCls K (.ref C) (.type "type") m)).getD 0
def recF : Option (List Value) → Option Addr
  | some (.ref f :: _) => some f
  | _ => none
def sAd (K : PySem.W.Frag) (C : Addr) (m : Str) : Addr := (recF (PySem.W.recIn K (pAd K C m) "staticmethod")).getD 0
def foundB (C : Addr) : Option PySem.W.CFound → Bool
  | some (.get (.builtin g) (.ref _) .none (.ref D)) => decide (g = "staticmethod.__get__") && decide (D = C)
  | _ => false
def recB : Option (List Value) → Bool
  | some (.ref _ :: _) => true
  | _ => false
def statB (K : PySem.W.Frag) (C : Addr) (m : Str) : Bool := He.eqO (PySem.W.specialIn K (.ref C) "__getattribute__") (some (some (.builtin "type.__getattribute__"))) && (decide (PySem.W.typeIn K (.ref C) = some (.type "type")) && (PySem.W.readsIn K C (.type "type") &&
  (foundB C (PySem.W.findCls K (.ref C) (.type "type") m) && (recB (PySem.W.recIn K (pAd K C m) "staticmethod") && PySem.W.keepIn K (.ref (sAd K C m))))))
theorem foundB_ok {C : Addr} {r : Option PySem.W.CFound} (h : foundB C r = true) : r = some (.get (.builtin "staticmethod.__get__") (.ref ((statP r).getD 0)) .none (.ref C)) := by
  unfold foundB at h
  split at h
  · rename_i g p D
    obtain ⟨h1, h2⟩ := He.ba h
    have e1 := of_decide_eq_true h1
    have e2 := of_decide_eq_true h2
    rw [e1, e2]
    show _ = some (PySem.W.CFound.get _ (.ref ((if ("staticmethod.__get__" : String) = "staticmethod.__get__" then some p else none).getD 0)) _ _)
    rw [if_pos rfl]
    rfl
  · cases h
theorem recB_ok {r : Option (List Value)} (h : recB r = true) : ∃ rest, r = some (.ref ((recF r).getD 0) :: rest) := by
  unfold recB at h
  split at h
  · exact ⟨_, rfl⟩
  · cases h
theorem statB_ok {K : PySem.W.Frag} {C : Addr} {m : Str} (h : statB K C m = true) : Stat K C m (sAd K C m) := by
  obtain ⟨a1, h⟩ := He.ba h
  obtain ⟨a2, h⟩ := He.ba h
  obtain ⟨a3, h⟩ := He.ba h
  obtain ⟨a4, h⟩ := He.ba h
  obtain ⟨a5, a6⟩ := He.ba h
  obtain ⟨rest, e⟩ := recB_ok a5
  exact ⟨He.eqO_ok a1, of_decide_eq_true a2, a3, ⟨pAd K C m, rest, foundB_ok a4, e⟩, a6⟩
/-! ### the Hook: as the library's by one more list of defs, looked for by an address of one's own -/
structure StD where
  cls : Str
  meth : Str
  d : He.DefD
def StD.ad (K : PySem.W.Frag) (x : StD) : Addr := sAd K (He.ga K x.cls) x.meth
def stW (K : PySem.W.Frag) (x : StD) : He.FnW := match K.lookup (x.ad K) with
  | some ⟨_, _, .func fd, _⟩ => some (fd.name, fd.qualname, fd.params, fd.body, fd.scope, fd.globals, fd.closure, fd.builtins)
  | _ => none
def StD.ok (K : PySem.W.Frag) (x : StD) : Bool := statB K (He.ga K x.cls) x.meth && (match K.lookup (x.ad K) with
  | some ⟨_, _, .func fd, _⟩ => PySem.W.codeIn K fd.code x.d.qual && (He.dflB K fd.defaults (x.d.dvs K) && He.kwdB K fd.kwdefaults (x.d.kws K))
  | _ => false)
theorem StD.funD {K : PySem.W.Frag} {x : StD} (e : stW K x = x.d.val) (c : x.ok K = true) : Stat K (He.ga K x.cls) x.meth (x.ad K) ∧ ∃ fd, FunD K x.d.name x.d.qual x.d.params x.d.body x.d.scope (x.d.dvs K) (x.d.kws K) (x.ad K) fd := by
  obtain ⟨st, c⟩ := He.ba c
  have S := statB_ok st
  refine ⟨S, ?_⟩
  unfold stW at e
  cases look : K.lookup (x.ad K) with
  | none =>
    rw [look] at c
    cases c
  | some ob =>
    obtain ⟨oc, od, dt, sl⟩ := ob
    rw [look] at c e
    cases dt with
    | func fd =>
      obtain ⟨f1, f2, f3, f4, f5, f6, f7, f8, f9, f10, f11, f12, f13, f14, f15⟩ := fd
      have same : (some (f1, f2, f3, f4, f5, f6, f7, f15) : He.FnW) = some (x.d.name, x.d.qual, x.d.params, .stmts x.d.body, x.d.scope, mainGlobals, [], builtinsNs) := e
      simp only [Option.some.injEq, Prod.mk.injEq] at same
      obtain ⟨i1, i2, i3, i4, i5, i6, i7, i8⟩ := same
      subst i1 i2 i3 i4 i5 i6 i7 i8
      have all : (PySem.W.codeIn K f13 x.d.qual && (He.dflB K f8 (x.d.dvs K) && He.kwdB K f9 (x.d.kws K))) = true := c
      obtain ⟨j1, all⟩ := He.ba all
      obtain ⟨j2, j3⟩ := He.ba all
      exact ⟨_, ⟨oc, od, f8, f9, f10, f11, f12, f13, f14, sl, rfl, look, j1, He.dflB_ok j2, He.kwdB_ok j3⟩, S.kp⟩
    | _ => cases c
abbrev AlS : Type := (He.AlD × Bool) × List He.FnW
def obsS (n : Nat) (fa : List He.Fa) (fn : List He.DefD) (sd : List StD) (ex : PySem.W.Frag → Bool) (g : Addr → Option Obj) : AlS :=
  ((He.obsD fa fn (He.frT g (cStatics :: He.asD g n)), ex (He.frT g (cStatics :: He.asD g n)) && sd.all fun x => x.ok (He.frT g (cStatics :: He.asD g n))), sd.map fun x => stW (He.frT g (cStatics :: He.asD g n)) x)
def valS (fn : List He.DefD) (sd : List StD) : AlS := ((He.valD fn, true), sd.map fun x => x.d.val)
structure SaysS (fa : List He.Fa) (fn : List He.DefD) (sd : List StD) (ex : PySem.W.Frag → Bool) (K : PySem.W.Frag) : Prop where
  d : He.SaysD fa fn K
  more : ex K = true
  st : ∀ x ∈ sd, Stat K (He.ga K x.cls) x.meth (x.ad K) ∧ ∃ fd, FunD K x.d.name x.d.qual x.d.params x.d.body x.d.scope (x.d.dvs K) (x.d.kws K) (x.ad K) fd
theorem saysS_of {fa : List He.Fa} {fn : List He.DefD} {sd : List StD} {ex : PySem.W.Frag → Bool} {K : PySem.W.Frag} (e : (((He.obsD fa fn K, ex K && sd.all fun x => x.ok K), sd.map fun x => stW K x) : AlS) = valS fn sd) : SaysS fa fn sd ex K := by
  have e1 : He.obsD fa fn K = He.valD fn := congrArg (fun z : AlS => z.1.1) e
  have e2 : (ex K && sd.all fun x => x.ok K) = true := congrArg (fun z : AlS => z.1.2) e
  have e3 : (sd.map fun x => stW K x) = sd.map fun x => x.d.val := congrArg (fun z : AlS => z.2) e
  obtain ⟨a, b⟩ := He.ba e2
  refine ⟨e1, a, fun x hx => ?_⟩
  obtain ⟨i, hi, rfl⟩ := List.mem_iff_getElem.mp hx
  have e4 : (sd.map fun x => stW K x)[i]? = (sd.map fun x => x.d.val)[i]? := by rw [e3]
  rw [List.getElem?_map, List.getElem?_map, List.getElem?_eq_getElem hi] at e4
  exact StD.funD (Option.some.inj e4) (List.all_eq_true.mp b _ hx)
def hookS (n : Nat) (fa : List He.Fa) (fn : List He.DefD) (sd : List StD) (ex : PySem.W.Frag → Bool) : PySem.W.Hook where
  α := AlS
  obs := fun s => obsS n fa fn sd ex s.heap.get?
  val := fun _ => valS fn sd
  says := fun _ h => ∃ K : PySem.W.Frag, K.In h ∧ SaysS fa fn sd ex K
  of := fun _ _ e => ⟨_, He.frT_in, saysS_of e⟩
  keeps := fun _ _ _ ⟨K, hK, c⟩ k => ⟨K, PySem.W.Frag.In.keeps hK k, c⟩
theorem obsS_eq {n : Nat} {fa : List He.Fa} {fn : List He.DefD} {sd : List StD} {ex : PySem.W.Frag → Bool} {g : Addr → Option Obj} {s : Shared} (h : ∀ a, g a = s.heap.get? a) : obsS n fa fn sd ex g = (hookS n fa fn sd ex).obs s := by
  have e : g = s.heap.get? := funext h
  rw [e] <;> rfl
/-! ### C.m(..) -/
section
variable {X : Cx} {CX : CXT} {k : Nat} {f C : Addr} {fd : FuncData} {ps : List Str} {sp : Sp} {ds : List Value} {dvs : List V} {E : L2.St → XK} {x m : Str} {p1 p2 pos : Pos} {e : Expr} {es : List Expr} {t : TA}
def tStat (sp : Sp) (dvs : List V) (E : L2.St → XK) (t : TA) : TE := fun σ H Q => t σ H fun vs H1 => sp (vs ++ dvs) H1 Q (E σ)
theorem pe_stat {pl : Sem Bool} (S : Stat X.K C m f) (F : FnOk X.prog X.w X.K X.mg X.base CX k f fd ps sp) (hr : Room k X.A) (hg : Gl X x) (hm : X.mg x = some (.ref C)) (hb : Binds X.K fd ps ds) (hd : Vals dvs ds) (hx : ∀ σ, PassesAt CX X σ (E σ)) (ha : PA X (e :: es) t)
    (hdb : (x == ("__debug__" : Str)) = false := by decide) (hst : starEach (e :: es) X.env = (false, eval e X.env) :: starEach es X.env := by rfl) (hpl : (backTo pos (starEach es X.env)).any (·.1) = false := by rfl)
    (ht : eval (.Call (.Attribute (.Name x p1) m p2) (e :: es) [] pos) X.env = (do
      let ov ← eval (.Name x p1) X.env
      standAt p2.atName
      let (f, first) ← holding [ov] (getMethod ov m pl)
      callWith pos f first (backTo pos (starEach (e :: es) X.env)) (backToKw pos (keywordEach [] X.env))) := by rfl) :
    PE X (.Call (.Attribute (.Name x p1) m p2) (e :: es) [] pos) (tStat sp dvs E t) := by
  refine ⟨fun pins s σ H Q I h => PySem.W.methodCall_KW (pl := pl) (ld_glob I hg hm ?_ hdb) ht⟩
  obtain ⟨mm, fr⟩ := I.fr
  obtain ⟨p, rest, found, rc⟩ := S.fd
  refine PySem.W.method_of_cls fr I.ok.mod.kin S.ga (PySem.W.cls_sm fr I.ok.mod.kin S.ty S.rd found rc rfl ?_)
  refine PySem.W.callWith_K (first := []) (h₀ := X.base) I.ok.mod.kin S.kp (thn (ha.run pos pins _ σ H _ (I.tok _) h) fun us s1 ⟨vs, H1, I1, r, z⟩ => ⟨I1.kIn, ?_⟩) hst hpl
  have n : (us ++ ds).length = ps.length := by
    rw [← F.len _ _ _ _ z, List.length_append, List.length_append, r.length, hd.length]
  have b := hb s1 us I1.kIn n
  refine wpAny_call (codeAny_mono (F.run X.A X.stack s1 H1 ⟨us, []⟩ (us ++ ds) (vs ++ dvs) Q (E σ) hr I1.env0 b (r.append hd) z) fun res s2 y => ?_)
  cases res with
  | error er => exact hx σ pins H1 s1 er s2 I1 y
  | ok fl =>
    cases fl with
    | ret u => exact I1.after y
    | next => exact y.elim
    | brk => exact y.elim
    | cont => exact y.elim
end
end Tl

/-! Operators that an own class defines, as rules of the hand layer: a op b, str op a, ~a, x in a, len(a), bool(a), a op= b, a == b. -/
namespace Tl
open PySem PySem.Spec PyProof.Rows L2
theorem back_ok {X : Cx} {pins : List (Addr × Obj)} {σ : L2.St} {Q : VK} {u : Value} {s : Shared} (h : EP X pins σ Q u s) : PySem.W.CmpBack (EP X pins σ Q) u s := by
  cases u with
  | notImplemented =>
    obtain ⟨v, H', _, rv, _⟩ := h
    cases v <;> first | (exact nomatch rv) | (obtain ⟨_, e⟩ := rv; exact nomatch e)
  | _ => exact h
theorem relRef (a : Addr) : RelV (.ref a) (.ref a) := rfl
theorem relStr (z : Str) (t : Tok) : RelV (.str z) (.str z t) := ⟨t, rfl⟩
/-- the class at C, a method m of it at f, m an operator's name -/
structure OpC (K : PySem.W.Frag) (C : Addr) (m : Str) (f : Addr) : Prop where
  at_ : PySem.W.findIn K (.ref C) m = some (some (.ref f))
  fn : PySem.W.isFn K (.ref f) = true
section
variable {X : Cx} {CX : CXT} {k : Nat} {C f : Addr} {fd : FuncData} {ps : List Str} {sp : Sp} {E : XK}
theorem inst_of {pins : List (Addr × Obj)} {σ : L2.St} {H : Hp} {s : Shared} {a dx : Addr} {fs : List (Str × V)} (I : Inv X pins σ H s) (e : H a = some (.ins C dx fs)) : ∃ ox od, PySem.W.InstAt s.heap a ox C (some od) := by
  obtain ⟨mA, O, _, _, _, _⟩ := ins_get I.hok e
  obtain ⟨od, J, _⟩ := O.look
  exact ⟨_, od, J⟩
theorem run_op {pins : List (Addr × Obj)} {σ : L2.St} {H : Hp} {s : Shared} {Q : VK} {vs : List V} {us : List Value} (F : FnOk X.prog X.w X.K X.mg X.base CX k f fd ps sp) (hr : Room k X.A) (hb : Binds X.K fd ps []) (hx : Passes CX X E)
    (I : Inv X pins σ H s) (r : Vals vs us) (h : sp vs H Q E) : wpAny (model X.prog X.w) X.A (call (.ref f) us) (EP X pins σ Q) X.xe s :=
  run_fn (dvs := []) F hr hb .nil hx I r (by rw [List.append_nil]; exact h)
/-- a op b, both instances of C -/
def rBin (C : Addr) (sp : Sp) (E : XK) : R2 := fun x y H Q => ∃ a dx fs b dy gs, x = .ref a ∧ y = .ref b ∧ H a = some (.ins C dx fs) ∧ H b = some (.ins C dy gs) ∧ sp [.ref a, .ref b] H Q E
theorem op_bin {op : Operator} (hc : PySem.W.selfFirst X.K C = true) (M : OpC X.K C (PySem.dunder op.info.2) f) (F : FnOk X.prog X.w X.K X.mg X.base CX k f fd ps sp) (hr : Room k X.A) (hb : Binds X.K fd ps []) (hx : Passes CX X E) :
    OpR X (binaryOp op) (rBin C sp E) := by
  intro pins s σ H x y v u Q I rx ry h
  obtain ⟨a, dx, fs, b, dy, gs, rfl, rfl, ha, hb2, q⟩ := h
  cases rx
  cases ry
  obtain ⟨oa, da, Ja⟩ := inst_of I ha
  obtain ⟨ob, db, Jb⟩ := inst_of I hb2
  obtain ⟨mm, Fm⟩ := I.fr
  have one := run_op F hr hb hx I (.cons (relRef _) (.cons (relRef _) .nil)) q
  exact PySem.W.binop_K Fm I.mod.kin Ja Jb.type hc M.at_ M.fn (wpAny_mono one (fun _ _ z => back_ok z) fun _ _ z => z)
/-- a op z, a an instance of C, z a text -/
def rBinS (C : Addr) (sp : Sp) (E : XK) : R2 := fun x y H Q => ∃ a dx fs z, x = .ref a ∧ y = .str z ∧ H a = some (.ins C dx fs) ∧ sp [.ref a, .str z] H Q E
theorem op_binS {op : Operator} {fo ro rc : Option Value} (hc : PySem.W.selfFirst X.K C = true) (M : OpC X.K C (PySem.dunder op.info.2) f) (hR : PySem.W.findIn X.K (.ref C) (dunderR op.info.2) = some rc) (hp : rc = none ∨ ∃ g : Addr, rc = some (.ref g))
    (h1 : PySem.W.findIn X.K (.type "str") (PySem.dunder op.info.2) = some fo) (h2 : PySem.W.findIn X.K (.type "str") (dunderR op.info.2) = some ro) (hsub : PySem.W.subIn X.K (.type "str") (.ref C) = some false)
    (F : FnOk X.prog X.w X.K X.mg X.base CX k f fd ps sp) (hr : Room k X.A) (hb : Binds X.K fd ps []) (hx : Passes CX X E) : OpR X (binaryOp op) (rBinS C sp E) := by
  intro pins s σ H x y v u Q I rx ry h
  obtain ⟨a, dx, fs, z, rfl, rfl, ha, q⟩ := h
  cases rx
  obtain ⟨t, rfl⟩ := ry
  obtain ⟨oa, da, Ja⟩ := inst_of I ha
  obtain ⟨mm, Fm⟩ := I.fr
  have one := run_op F hr hb hx I (.cons (relRef _) (.cons (relStr z t) .nil)) q
  exact PySem.W.ksp_binT Fm I.mod.kin Ja (by rfl) hc M.at_ M.fn hR hp h1 h2 hsub (wpAny_mono one (fun _ _ z => back_ok z) fun _ _ z => z)
/-- ~a -/
def rInv (C : Addr) (sp : Sp) (E : XK) : V → Hp → VK → Prop := fun x H Q => ∃ a dx fs, x = .ref a ∧ H a = some (.ins C dx fs) ∧ sp [.ref a] H Q E
theorem un_own (M : OpC X.K C "__invert__" f) (F : FnOk X.prog X.w X.K X.mg X.base CX k f fd ps sp) (hr : Room k X.A) (hb : Binds X.K fd ps []) (hx : Passes CX X E) : UnR X (unaryOp .Invert) (rInv C sp E) := by
  intro pins s σ H x v Q I rx h
  obtain ⟨a, dx, fs, rfl, ha, q⟩ := h
  cases rx
  obtain ⟨oa, da, Ja⟩ := inst_of I ha
  obtain ⟨mm, Fm⟩ := I.fr
  have one := run_op F hr hb hx I (.cons (relRef _) .nil) q
  exact PySem.W.ksp_inv Fm I.mod.kin Ja M.at_ M.fn one
/-- x in a, the method handing back True or False -/
def rInO (C : Addr) (sp : Sp) (E : XK) (neg : Bool) : R2 := fun x y H Q => ∃ a dx fs, y = .ref a ∧ H a = some (.ins C dx fs) ∧ sp [.ref a, x] H (fun v H' => ∃ b, v = .bl b ∧ Q (.bl (if neg then !b else b)) H') E
theorem op_inO (M : OpC X.K C "__contains__" f) (F : FnOk X.prog X.w X.K X.mg X.base CX k f fd ps sp) (hr : Room k X.A) (hb : Binds X.K fd ps []) (hx : Passes CX X E) : OpR X (compareOp .In) (rInO C sp E false) := by
  intro pins s σ H x y v u Q I rx ry h
  obtain ⟨a, dx, fs, rfl, ha, q⟩ := h
  cases ry
  obtain ⟨oa, da, Ja⟩ := inst_of I ha
  obtain ⟨mm, Fm⟩ := I.fr
  have one := run_op F hr hb hx I (.cons (relRef _) (.cons rx .nil)) q
  refine PySem.W.in_K Fm I.mod.kin Ja M.at_ M.fn (wpAny_mono one (fun r s' z => ?_) fun _ _ z => z)
  obtain ⟨w, H', I', rw', b, rfl, q'⟩ := z
  cases rw'
  exact wpAny_truthy_bool ⟨.bl b, H', I', rfl, q'⟩
theorem op_notInO (M : OpC X.K C "__contains__" f) (F : FnOk X.prog X.w X.K X.mg X.base CX k f fd ps sp) (hr : Room k X.A) (hb : Binds X.K fd ps []) (hx : Passes CX X E) : OpR X (compareOp .NotIn) (rInO C sp E true) := by
  intro pins s σ H x y v u Q I rx ry h
  obtain ⟨a, dx, fs, rfl, ha, q⟩ := h
  cases ry
  obtain ⟨oa, da, Ja⟩ := inst_of I ha
  obtain ⟨mm, Fm⟩ := I.fr
  have one := run_op F hr hb hx I (.cons (relRef _) (.cons rx .nil)) q
  refine PySem.W.notIn_K Fm I.mod.kin Ja M.at_ M.fn (wpAny_mono one (fun r s' z => ?_) fun _ _ z => z)
  obtain ⟨w, H', I', rw', b, rfl, q'⟩ := z
  cases rw'
  exact wpAny_truthy_bool ⟨.bl (!b), H', I', rfl, q'⟩
/-- len(a) by an own method -/
def rLenO (C : Addr) (sp : Sp) (E : XK) : List V → Hp → VK → Prop := fun xs H Q => ∃ a dx fs, xs = [.ref a] ∧ H a = some (.ins C dx fs) ∧ sp [.ref a] H (fun v H' => ∃ n : Int, v = .int n ∧ 0 ≤ n ∧ n < 2 ^ 63 ∧ Q (.int n) H') E
/-- truth of a by an own method -/
def rTruO (C : Addr) (sp : Sp) (E : XK) : V → Hp → (Bool → Hp → Prop) → Prop := fun x H Q => ∃ a dx fs, x = .ref a ∧ H a = some (.ins C dx fs) ∧ sp [.ref a] H (fun v H' => ∃ b, v = .bl b ∧ Q b H') E
theorem tru_own (M : OpC X.K C "__bool__" f) (F : FnOk X.prog X.w X.K X.mg X.base CX k f fd ps sp) (hr : Room k X.A) (hb : Binds X.K fd ps []) (hx : Passes CX X E) : TruR X (rTruO C sp E) := by
  intro pins s σ H x v Q I rx h
  obtain ⟨a, dx, fs, rfl, ha, q⟩ := h
  cases rx
  obtain ⟨oa, da, Ja⟩ := inst_of I ha
  obtain ⟨mm, Fm⟩ := I.fr
  have one := run_op F hr hb hx I (.cons (relRef _) .nil) q
  refine PySem.W.truthy_K Fm I.mod.kin Ja M.at_ M.fn (wpAny_mono one (fun r s' z => ?_) fun _ _ z => z)
  obtain ⟨w, H', I', rw', b, rfl, q'⟩ := z
  cases rw'
  exact ⟨H', I', q'⟩
/-- a op= y -/
def rIp (C : Addr) (sp : Sp) (E : XK) : TIp := fun x y H Q => ∃ a dx fs, x = .ref a ∧ H a = some (.ins C dx fs) ∧ sp [.ref a, y] H Q E
theorem ip_own {op : Operator} (hc : PySem.W.selfFirst X.K C = true) (M : OpC X.K C (dunderI op.info.2) f) (F : FnOk X.prog X.w X.K X.mg X.base CX k f fd ps sp) (hr : Room k X.A) (hb : Binds X.K fd ps []) (hx : Passes CX X E) : PIp X op (rIp C sp E) := by
  intro pins s σ H x y v u Q I rx ry h
  obtain ⟨a, dx, fs, rfl, ha, q⟩ := h
  cases rx
  obtain ⟨oa, da, Ja⟩ := inst_of I ha
  obtain ⟨mm, Fm⟩ := I.fr
  have one := run_op F hr hb hx I (.cons (relRef _) (.cons ry .nil)) q
  exact PySem.W.ksp_inplace Fm I.mod.kin Ja hc M.at_ M.fn (wpAny_mono one (fun _ _ z => back_ok z) fun _ _ z => z)
/-- the left operand is of a built-in type that declines, the right one an instance of C -/
theorem binR {prog : Program} {w : World} {A : Around} {E' : Value → Shared → Prop} {s : Shared} {K : PySem.W.Frag} {x C f g L : Addr} {h₀ : Heap} {m : Str → Option Value} {ox : Obj} {od : Option Obj} {T : String} {op : Operator} {b : Value} {fo ro : Option Value} {Q : Value → Shared → Prop}
    (F : Fr h₀ L s.heap m) (X₀ : K.In h₀) (J : PySem.W.InstAt s.heap x ox C od) (hb : typeOf b = pure (.type T)) (hc : PySem.W.selfFirst K C = true)
    (hs : PySem.W.findIn K (.ref C) (PySem.dunder op.info.2) = some (some (.ref f))) (hg : PySem.W.findIn K (.ref C) (dunderR op.info.2) = some (some (.ref g))) (hf : PySem.W.isFn K (.ref g) = true)
    (h1 : PySem.W.findIn K (.type T) (PySem.dunder op.info.2) = some fo) (h2 : PySem.W.findIn K (.type T) (dunderR op.info.2) = some ro) (hl : ((fo.isSome && !isSeqSlot fo) || (ro.isSome && !isSeqSlot ro)) = false)
    (h : wpAny (model prog w) A (call (.ref g) [.ref x, b]) (PySem.W.CmpBack Q) E' s) : wpAny (model prog w) A (binaryOp op b (.ref x)) Q E' s := by
  have Xk := X₀.keeps F.keep
  obtain ⟨cd, rest, hcd, hm⟩ := PySem.W.ksp_first hc
  rcases hi : op.info with ⟨sym, nm'⟩
  rw [hi] at hs hg h1 h2
  dsimp only at hs hg h1 h2
  have one := PySem.W.ksp_try Xk J hg hf h
  obtain ⟨hh, gg, d, tt, os⟩ := s
  have L1 : PySem.W.Looks (model prog w) hh (typeOf b) (.type T) := PySem.W.Looks.of_pure hb
  have L2 : PySem.W.Looks (model prog w) hh (typeOf (.ref x)) (.ref C) := J.type
  have L3 : PySem.W.Looks (model prog w) hh (fillsNumberSlot (.ref C) nm') true := PySem.W.fills_K Xk hcd hm hs
  have L4 : PySem.W.Looks (model prog w) hh (fillsNumberSlot (.type T) nm') false := by
    have z := PySem.W.ksp_fillsT (M := model prog w) Xk h1 h2
    rw [hl] at z
    exact z
  have hne : (Value.type T == Value.ref C) = false := Bool.eq_false_iff.mpr fun q => by cases beq_iff_eq.mp q
  simp only [binaryOp, hi]
  refine wpAny_holding (wpAny_bind ?_)
  unfold binaryOp1
  refine wpAny_bind (L1.at (wpAny_bind (L2.at (wpAny_bind (L4.at ?_)))))
  simp only [hne, Bool.false_eq_true, if_false]
  ksp_lk
  refine wpAny_mono one (fun r s' hr' => ?_) fun _ _ e => e
  obtain ⟨v, rfl, hq⟩ := hr'
  ksp_lk
  exact hq
/-- z op a, z a text, a an instance of C -/
def rBinR (C : Addr) (sp : Sp) (E : XK) : R2 := fun x y H Q => ∃ a dx fs z, x = .str z ∧ y = .ref a ∧ H a = some (.ins C dx fs) ∧ sp [.ref a, .str z] H Q E
theorem op_binR {op : Operator} {g : Addr} {fo ro : Option Value} (hc : PySem.W.selfFirst X.K C = true) (M0 : OpC X.K C (PySem.dunder op.info.2) g) (M : OpC X.K C (dunderR op.info.2) f)
    (h1 : PySem.W.findIn X.K (.type "str") (PySem.dunder op.info.2) = some fo) (h2 : PySem.W.findIn X.K (.type "str") (dunderR op.info.2) = some ro) (hl : ((fo.isSome && !isSeqSlot fo) || (ro.isSome && !isSeqSlot ro)) = false)
    (F : FnOk X.prog X.w X.K X.mg X.base CX k f fd ps sp) (hr : Room k X.A) (hb : Binds X.K fd ps []) (hx : Passes CX X E) : OpR X (binaryOp op) (rBinR C sp E) := by
  intro pins s σ H x y v u Q I rx ry h
  obtain ⟨a, dx, fs, z, rfl, rfl, ha, q⟩ := h
  obtain ⟨t, rfl⟩ := rx
  cases ry
  obtain ⟨oa, da, Ja⟩ := inst_of I ha
  obtain ⟨mm, Fm⟩ := I.fr
  have one := run_op F hr hb hx I (.cons (relRef _) (.cons (relStr z t) .nil)) q
  exact binR Fm I.mod.kin Ja (by rfl) hc M0.at_ M.at_ M.fn h1 h2 hl (wpAny_mono one (fun _ _ z => back_ok z) fun _ _ z => z)
/-- a == b by an own __eq__, b an instance of C too -/
theorem op_eqO (M : OpC X.K C "__eq__" f) (F : FnOk X.prog X.w X.K X.mg X.base CX k f fd ps sp) (hr : Room k X.A) (hb : Binds X.K fd ps []) (hx : Passes CX X E) : OpR X (compareOp .Eq) (rBin C sp E) := by
  intro pins s σ H x y v u Q I rx ry h
  obtain ⟨a, dx, fs, b, dy, gs, rfl, rfl, ha, hb2, q⟩ := h
  cases rx
  cases ry
  obtain ⟨oa, da, Ja⟩ := inst_of I ha
  obtain ⟨ob, db, Jb⟩ := inst_of I hb2
  obtain ⟨mm, Fm⟩ := I.fr
  have one := run_op F hr hb hx I (.cons (relRef _) (.cons (relRef b) .nil)) q
  exact PySem.W.cmp_K (op := .Eq) (Nat.lt_of_succ_lt (hu_of hr)) Fm I.mod.kin Ja Jb.type (by show ((Value.ref C == Value.ref C) || _) = true; rw [beq_self_eq_true]; rfl) M.at_ M.fn (wpAny_mono one (fun _ _ z => back_ok z) fun _ _ z => z)
theorem call_lenO (M : OpC X.K C "__len__" f) (F : FnOk X.prog X.w X.K X.mg X.base CX k f fd ps sp) (hr : Room (k + 1) X.A) (hb : Binds X.K fd ps []) (hx : Passes CX X E) : CallR X (.builtin "len") (rLenO C sp E) := by
  intro pins s σ H xs us Q I r h
  obtain ⟨a, dx, fs, rfl, ha, q⟩ := h
  rw [Vals.ref1 r]
  obtain ⟨oa, da, Ja⟩ := inst_of I ha
  obtain ⟨mm, Fm⟩ := I.fr
  have hl : ([Value.ref a] ++ []).length = ps.length := by
    rw [← F.len _ _ _ _ q]
    rfl
  refine PySem.W.len_K Fm I.mod.kin Ja M.at_ M.fn (wpAny_call (codeAny_mono (F.run X.A.in1 X.stack s H ⟨[.ref a], []⟩ [.ref a] [.ref a] _ E hr.in1 I.env0.in1 (hb _ [.ref a] I.kIn hl) (.cons (relRef _) .nil) q) fun r s' hq => ?_))
  cases r with
  | error er => exact hx pins σ H s er s' I hq
  | ok fl =>
    cases fl with
    | ret u =>
      obtain ⟨v, H', I3, rv, n, rfl, h0, h1, q3⟩ := I.after hq
      obtain ⟨t, rfl⟩ := rv
      exact ⟨⟨h0, h1⟩, .int n, H', I3.tok _, ⟨_, rfl⟩, q3⟩
    | next => exact False.elim hq
    | brk => exact False.elim hq
    | cont => exact False.elim hq
end
end Tl

set_option autoImplicit false
set_option maxErrors 4
/-! a * b, a an instance of an own class or b one, the method may raise; operators whose errors are told by the names of the frame. -/
namespace Tl
open PySem PySem.Spec PyProof.Rows L2
/-- an operation, its ways out told by the frame -/
def OpS (X : Cx) (op : Value → Value → Sem Value) (r : L2.St → R2) : Prop :=
  ∀ (pn : List (Addr × Obj)) (t : Shared) (τ : L2.St) (G : Hp) (a b : V) (va vb : Value) (W : VK), Inv X pn τ G t → RelV a va → RelV b vb → r τ a b G W → wpAny (model X.prog X.w) X.A (op va vb) (EP X pn τ W) X.xe t
def tOpS (r : L2.St → R2) (tl tr : TE) : TE := fun τ G W => tl τ G fun a G1 => tr τ G1 fun b G2 => r τ a b G2 W
theorem pe_opS {X : Cx} {l m : Expr} {o : Operator} {at_ : Pos} {tl tr : TE} {r : L2.St → R2} (h : OpS X (binaryOp o) r) (hl : PE X l tl) (hm : PE X m tr) : PE X (.BinOp l o m at_) (tOpS r tl tr) :=
  ⟨fun pn t τ G W I z => wpAny_BinOp (binT hl hm I z fun va vb t2 a b G2 J ra rb y => h pn t2 τ G2 a b va vb W J ra rb y)⟩
/-- a value of a built-in type -/
inductive Pl (H : Hp) : V → String → Prop
  | non : Pl H .non "NoneType"
  | bl (b : Bool) : Pl H (.bl b) "bool"
  | int (n : Int) : Pl H (.int n) "int"
  | str (z : Str) : Pl H (.str z) "str"
  | lst {a : Addr} {xs : List V} : H a = some (.lst xs) → Pl H (.ref a) "list"
theorem Pl.looks {X : Cx} {pn : List (Addr × Obj)} {τ : L2.St} {H : Hp} {t : Shared} {x : V} {u : Value} {T : String} (p : Pl H x T) (I : Inv X pn τ H t) (r : RelV x u) : PySem.W.Looks (model X.prog X.w) t.heap (typeOf u) (.type T) := by
  cases p with
  | non =>
    cases r
    exact PySem.W.Looks.of_pure rfl
  | bl b =>
    cases r
    exact PySem.W.Looks.of_pure rfl
  | int n =>
    obtain ⟨k, rfl⟩ := r
    exact PySem.W.Looks.of_pure rfl
  | str z =>
    obtain ⟨k, rfl⟩ := r
    exact PySem.W.Looks.of_pure rfl
  | @lst a xs e =>
    cases r
    obtain ⟨_, its, n, _, g⟩ := (show ObjOk X.prog X.w H t.heap a (.lst xs) from I.hok a _ e)
    intro _ _ _ _ keep q
    exact wpAny_typeOf_ref (keep _ _ g) q
section
variable {prog : Program} {w : World} {A : Around} {E' : Value → Shared → Prop} {s : Shared} {K : PySem.W.Frag} {x C f g L : Addr} {h₀ : Heap} {m : Str → Option Value} {ox : Obj} {od : Option Obj} {T : String} {op : Operator} {b : Value} {fo ro : Option Value} {Q : Value → Shared → Prop}
/-- the left operand an instance, the right one of a built-in type -/
theorem binL (F : Fr h₀ L s.heap m) (X₀ : K.In h₀) (J : PySem.W.InstAt s.heap x ox C od) (hb : PySem.W.Looks (model prog w) s.heap (typeOf b) (.type T)) (hc : PySem.W.selfFirst K C = true)
    (hs : PySem.W.findIn K (.ref C) (PySem.dunder op.info.2) = some (some (.ref f))) (hf : PySem.W.isFn K (.ref f) = true) (hg : PySem.W.findIn K (.ref C) (dunderR op.info.2) = some (some (.ref g)))
    (h1 : PySem.W.findIn K (.type T) (PySem.dunder op.info.2) = some fo) (h2 : PySem.W.findIn K (.type T) (dunderR op.info.2) = some ro) (no : PySem.W.subIn K (.type T) (.ref C) = some false)
    (h : wpAny (model prog w) A (call (.ref f) [.ref x, b]) (PySem.W.CmpBack Q) E' s) : wpAny (model prog w) A (binaryOp op (.ref x) b) Q E' s := by
  have Xk := X₀.keeps F.keep
  obtain ⟨cd, rest, hcd, hm⟩ := PySem.W.ksp_first hc
  rcases hi : op.info with ⟨sym, nm'⟩
  rw [hi] at hs hg h1 h2
  dsimp only at hs hg h1 h2
  have tried := PySem.W.ksp_try Xk J hs hf h
  obtain ⟨hh, gg, d, tt, os⟩ := s
  have A1 : PySem.W.Looks (model prog w) hh (typeOf (.ref x)) (.ref C) := J.type
  have A2 : PySem.W.Looks (model prog w) hh (typeOf b) (.type T) := hb
  have A3 : PySem.W.Looks (model prog w) hh (fillsNumberSlot (.ref C) nm') true := PySem.W.fills_K Xk hcd hm hs
  have A4 := PySem.W.ksp_fillsT (M := model prog w) Xk h1 h2
  have A5 : PySem.W.Looks (model prog w) hh (isSubtype (.type T) (.ref C)) false := PySem.W.looks_subIn Xk no
  have A6 : PySem.W.Looks (model prog w) hh (numberSlotInPython (.ref C) nm') true := PySem.W.ksp_inPy Xk hs hg (.inr ⟨g, rfl⟩)
  have A7 : PySem.W.Looks (model prog w) hh (numberSlotInPython (.type T) nm') false := PySem.W.Looks.of_pure rfl
  have A8 : PySem.W.Looks (model prog w) hh (typeLookup (.type T) (dunderR nm')) ro := PySem.W.looks_findIn Xk h2
  generalize ((fo.isSome && !isSeqSlot fo) || (ro.isSome && !isSeqSlot ro)) = side at A4
  have unlike : (Value.ref C == Value.type T) = false := Bool.eq_false_iff.mpr fun q => by cases beq_iff_eq.mp q
  simp only [binaryOp, hi]
  refine wpAny_holding (wpAny_bind ?_)
  unfold binaryOp1
  refine wpAny_bind (A1.at (wpAny_bind (A2.at (wpAny_bind (A3.at ?_)))))
  simp only [unlike, Bool.false_eq_true, if_false]
  cases side with
  | false =>
    ksp_lk
    refine wpAny_mono tried (fun r s' z => ?_) fun _ _ e => e
    obtain ⟨v, rfl, q⟩ := z
    ksp_lk
    exact q
  | true =>
    ksp_lk
    refine wpAny_mono tried (fun r s' z => ?_) fun _ _ e => e
    obtain ⟨v, rfl, q⟩ := z
    ksp_lk
    exact q
/-- the left operand of a built-in type without a number's slot, the right one an instance -/
theorem binN (F : Fr h₀ L s.heap m) (X₀ : K.In h₀) (J : PySem.W.InstAt s.heap x ox C od) (hb : PySem.W.Looks (model prog w) s.heap (typeOf b) (.type T)) (hc : PySem.W.selfFirst K C = true)
    (hs : PySem.W.findIn K (.ref C) (PySem.dunder op.info.2) = some (some (.ref f))) (hg : PySem.W.findIn K (.ref C) (dunderR op.info.2) = some (some (.ref g))) (hf : PySem.W.isFn K (.ref g) = true)
    (h1 : PySem.W.findIn K (.type T) (PySem.dunder op.info.2) = some fo) (h2 : PySem.W.findIn K (.type T) (dunderR op.info.2) = some ro) (hl : ((fo.isSome && !isSeqSlot fo) || (ro.isSome && !isSeqSlot ro)) = false)
    (h : wpAny (model prog w) A (call (.ref g) [.ref x, b]) (PySem.W.CmpBack Q) E' s) : wpAny (model prog w) A (binaryOp op b (.ref x)) Q E' s := by
  have Xk := X₀.keeps F.keep
  obtain ⟨cd, rest, hcd, hm⟩ := PySem.W.ksp_first hc
  rcases hi : op.info with ⟨sym, nm'⟩
  rw [hi] at hs hg h1 h2
  dsimp only at hs hg h1 h2
  have tried := PySem.W.ksp_try Xk J hg hf h
  obtain ⟨hh, gg, d, tt, os⟩ := s
  have A1 : PySem.W.Looks (model prog w) hh (typeOf b) (.type T) := hb
  have A2 : PySem.W.Looks (model prog w) hh (typeOf (.ref x)) (.ref C) := J.type
  have A3 : PySem.W.Looks (model prog w) hh (fillsNumberSlot (.ref C) nm') true := PySem.W.fills_K Xk hcd hm hs
  have A4 := PySem.W.ksp_fillsT (M := model prog w) Xk h1 h2
  rw [hl] at A4
  have unlike : (Value.type T == Value.ref C) = false := Bool.eq_false_iff.mpr fun q => by cases beq_iff_eq.mp q
  simp only [binaryOp, hi]
  refine wpAny_holding (wpAny_bind ?_)
  unfold binaryOp1
  refine wpAny_bind (A1.at (wpAny_bind (A2.at (wpAny_bind (A4.at ?_)))))
  simp only [unlike, Bool.false_eq_true, if_false]
  ksp_lk
  refine wpAny_mono tried (fun r s' z => ?_) fun _ _ e => e
  obtain ⟨v, rfl, q⟩ := z
  ksp_lk
  exact q
/-- the left operand of a built-in type whose own method declines -/
theorem binD {id : String} (F : Fr h₀ L s.heap m) (X₀ : K.In h₀) (J : PySem.W.InstAt s.heap x ox C od) (hT : s.TypeIs b T) (hb : PySem.W.Looks (model prog w) s.heap (typeOf b) (.type T)) (hc : PySem.W.selfFirst K C = true)
    (hs : PySem.W.findIn K (.ref C) (PySem.dunder op.info.2) = some (some (.ref f))) (hg : PySem.W.findIn K (.ref C) (dunderR op.info.2) = some (some (.ref g))) (hf : PySem.W.isFn K (.ref g) = true)
    (fills : fillsNumberSlot (.type T) op.info.2 = pure true) (no : PySem.W.subIn K (.ref C) (.type T) = some false) (slot : Slot T (PySem.dunder op.info.2) id)
    (declines : ∀ R : Value → Shared → Prop, R .notImplemented s → wpAny (model prog w) A (call (.builtin id) [b, .ref x]) R E' s)
    (h : wpAny (model prog w) A (call (.ref g) [.ref x, b]) (PySem.W.CmpBack Q) E' s) : wpAny (model prog w) A (binaryOp op b (.ref x)) Q E' s := by
  have Xk := X₀.keeps F.keep
  obtain ⟨cd, rest, hcd, hm⟩ := PySem.W.ksp_first hc
  rcases hi : op.info with ⟨sym, nm'⟩
  rw [hi] at hs hg fills slot
  dsimp only at hs hg fills slot
  have tried := PySem.W.ksp_try Xk J hg hf h
  obtain ⟨hh, gg, d, tt, os⟩ := s
  have A1 : PySem.W.Looks (model prog w) hh (typeOf b) (.type T) := hb
  have A2 : PySem.W.Looks (model prog w) hh (typeOf (.ref x)) (.ref C) := J.type
  have A3 : PySem.W.Looks (model prog w) hh (fillsNumberSlot (.ref C) nm') true := PySem.W.fills_K Xk hcd hm hs
  have A4 : PySem.W.Looks (model prog w) hh (fillsNumberSlot (.type T) nm') true := PySem.W.Looks.of_pure fills
  have A5 : PySem.W.Looks (model prog w) hh (isSubtype (.ref C) (.type T)) false := PySem.W.looks_subIn Xk no
  have A7 : PySem.W.Looks (model prog w) hh (numberSlotInPython (.type T) nm') false := PySem.W.Looks.of_pure rfl
  have unlike : (Value.type T == Value.ref C) = false := Bool.eq_false_iff.mpr fun q => by cases beq_iff_eq.mp q
  simp only [binaryOp, hi]
  refine wpAny_holding (wpAny_bind ?_)
  unfold binaryOp1
  refine wpAny_bind (A1.at (wpAny_bind (A2.at (wpAny_bind (A4.at ?_)))))
  simp only [unlike, Bool.false_eq_true, if_false]
  ksp_lk
  refine wpAny_tryMethod_declines hT slot (declines _ ⟨rfl, ?_⟩)
  ksp_lk
  refine wpAny_mono tried (fun r s' z => ?_) fun _ _ e => e
  obtain ⟨v, rfl, q⟩ := z
  ksp_lk
  exact q
end
theorem asInt_no {M : Model} {A : Around} {E : Value → Shared → Prop} {s : Shared} {p C dx : Addr} {Q : Option Int → Shared → Prop} (g : s.heap.get? p = some (PySem.W.instObj C dx)) (q : Q none s) : wpAny M A (asInt? (.ref p)) Q E s := by
  simp only [asInt?]
  exact wpAny_bind (wpAny_load g (wpAny_pure q))
theorem mul_no (n : Int) (k : Tok) (p C dx : Addr) :
    Meets (Builtin.«int.__mul__» ⟨[.int n k, .ref p], []⟩) (fun _ R t => t.heap.get? p = some (PySem.W.instObj C dx) ∧ R (.ok (.ret Value.notImplemented)) t) := by
  refine .of_wp fun prog w A R t z => ?_
  obtain ⟨hp, gg, dd, tk, os⟩ := t
  obtain ⟨g, z⟩ := z
  wp_walk
  exact ⟨_, rfl, z⟩
theorem mul_noB (n : Bool) (p C dx : Addr) :
    Meets (Builtin.«int.__mul__» ⟨[.bool n, .ref p], []⟩) (fun _ R t => t.heap.get? p = some (PySem.W.instObj C dx) ∧ R (.ok (.ret Value.notImplemented)) t) := by
  refine .of_wp fun prog w A R t z => ?_
  obtain ⟨hp, gg, dd, tk, os⟩ := t
  obtain ⟨g, z⟩ := z
  wp_walk
  exact ⟨_, rfl, z⟩
/-- what the head says of a class with * on both sides -/
structure MulC (K : PySem.W.Frag) (C f g : Addr) : Prop where
  self : PySem.W.selfFirst K C = true
  left : OpC K C (PySem.dunder (Operator.Mult).info.2) f
  right : OpC K C (dunderR (Operator.Mult).info.2) g
  known : ∀ T ∈ ["NoneType", "bool", "int", "str", "list"], (∃ fo ro, PySem.W.findIn K (.type T) (PySem.dunder (Operator.Mult).info.2) = some fo ∧ PySem.W.findIn K (.type T) (dunderR (Operator.Mult).info.2) = some ro ∧
    (T ∈ ["NoneType", "str", "list"] → ((fo.isSome && !isSeqSlot fo) || (ro.isSome && !isSeqSlot ro)) = false)) ∧ PySem.W.subIn K (.type T) (.ref C) = some false ∧ PySem.W.subIn K (.ref C) (.type T) = some false
def mulTB (K : PySem.W.Frag) (C : Addr) (T : String) : Bool := (match PySem.W.findIn K (.type T) (PySem.dunder (Operator.Mult).info.2), PySem.W.findIn K (.type T) (dunderR (Operator.Mult).info.2) with
  | some fo, some ro => decide (T ∈ ["bool", "int"]) || !((fo.isSome && !isSeqSlot fo) || (ro.isSome && !isSeqSlot ro))
  | _, _ => false) && (decide (PySem.W.subIn K (.type T) (.ref C) = some false) && decide (PySem.W.subIn K (.ref C) (.type T) = some false))
def mulB (K : PySem.W.Frag) (C : Addr) : Bool := PySem.W.selfFirst K C && ["NoneType", "bool", "int", "str", "list"].all (mulTB K C)
theorem mulB_ok {K : PySem.W.Frag} {C f g : Addr} (h : mulB K C = true) (l : OpC K C (PySem.dunder (Operator.Mult).info.2) f) (r : OpC K C (dunderR (Operator.Mult).info.2) g) : MulC K C f g := by
  obtain ⟨a, b⟩ := He.ba h
  refine ⟨a, l, r, fun T hT => ?_⟩
  obtain ⟨c, d⟩ := He.ba (List.all_eq_true.mp b T hT)
  obtain ⟨d1, d2⟩ := He.ba d
  refine ⟨?_, of_decide_eq_true d1, of_decide_eq_true d2⟩
  split at c
  · rename_i fo ro e1 e2
    refine ⟨fo, ro, e1, e2, fun m => ?_⟩
    rcases Bool.or_eq_true _ _ ▸ c with z | z
    · exfalso
      have z := of_decide_eq_true z
      simp only [List.mem_cons, List.not_mem_nil, or_false] at z m
      rcases z with rfl | rfl <;> simp at m
    · exact Bool.not_eq_true' _ ▸ z
  · cases c
section
variable {X : Cx} {CX : CXT} {k : Nat} {C f g : Addr} {fd : FuncData} {ps : List Str} {sp : Sp} {E : L2.St → XK}
theorem run_opS {pn : List (Addr × Obj)} {τ : L2.St} {H : Hp} {t : Shared} {W : VK} {vs : List V} {us : List Value} (F : FnOk X.prog X.w X.K X.mg X.base CX k f fd ps sp) (hr : Room k X.A) (hb : Binds X.K fd ps []) (out : PassesAt CX X τ (E τ))
    (I : Inv X pn τ H t) (r : Vals vs us) (h : sp vs H W (E τ)) : wpAny (model X.prog X.w) X.A (call (.ref f) us) (EP X pn τ W) X.xe t := run_fnS F hr hb out I r h
def rMulL (C : Addr) (sp : Sp) (E : L2.St → XK) : L2.St → R2 := fun τ x y H Q => ∃ a dx fs T, x = .ref a ∧ H a = some (.ins C dx fs) ∧ Pl H y T ∧ sp [.ref a, y] H Q (E τ)
theorem op_mulL (M : MulC X.K C f g) (F : FnOk X.prog X.w X.K X.mg X.base CX k f fd ps sp) (hr : Room k X.A) (hb : Binds X.K fd ps []) (out : ∀ τ, PassesAt CX X τ (E τ)) : OpS X (binaryOp .Mult) (rMulL C sp E) := by
  intro pn t τ G x y va vb W I rx ry h
  obtain ⟨a, dx, fs, T, rfl, ha, pl, q⟩ := h
  cases rx
  obtain ⟨oa, da, Ja⟩ := inst_of I ha
  obtain ⟨mm, Fm⟩ := I.fr
  have one := run_opS F hr hb (out τ) I (.cons (relRef _) (.cons ry .nil)) q
  have hT : T ∈ ["NoneType", "bool", "int", "str", "list"] := by cases pl <;> decide
  obtain ⟨⟨fo, ro, e1, e2, _⟩, n1, _⟩ := M.known T hT
  exact binL (op := .Mult) Fm I.mod.kin Ja (pl.looks I ry) M.self M.left.at_ M.left.fn M.right.at_ e1 e2 n1 (wpAny_mono one (fun _ _ z => back_ok z) fun _ _ z => z)
def rMulR (C : Addr) (sp : Sp) (E : L2.St → XK) : L2.St → R2 := fun τ x y H Q => ∃ a dx fs T, y = .ref a ∧ H a = some (.ins C dx fs) ∧ Pl H x T ∧ sp [.ref a, x] H Q (E τ)
theorem op_mulR (M : MulC X.K C f g) (F : FnOk X.prog X.w X.K X.mg X.base CX k g fd ps sp) (hr : Room k X.A) (hb : Binds X.K fd ps []) (out : ∀ τ, PassesAt CX X τ (E τ)) : OpS X (binaryOp .Mult) (rMulR C sp E) := by
  intro pn t τ G x y va vb W I rx ry h
  obtain ⟨a, dx, fs, T, rfl, ha, pl, q⟩ := h
  cases ry
  obtain ⟨oa, da, Ja⟩ := inst_of I ha
  obtain ⟨mm, Fm⟩ := I.fr
  have one := wpAny_mono (run_opS F hr hb (out τ) I (.cons (relRef _) (.cons rx .nil)) q) (fun _ _ z => back_ok z) fun _ _ z => z
  have look := pl.looks I rx
  have hT : T ∈ ["NoneType", "bool", "int", "str", "list"] := by cases pl <;> decide
  obtain ⟨⟨fo, ro, e1, e2, low⟩, _, n2⟩ := M.known T hT
  obtain ⟨mA, O, _⟩ := ins_get I.hok ha
  cases pl with
  | non => exact binN (op := .Mult) Fm I.mod.kin Ja look M.self M.left.at_ M.right.at_ M.right.fn e1 e2 (low (by decide)) one
  | str z => exact binN (op := .Mult) Fm I.mod.kin Ja look M.self M.left.at_ M.right.at_ M.right.fn e1 e2 (low (by decide)) one
  | lst e => exact binN (op := .Mult) Fm I.mod.kin Ja look M.self M.left.at_ M.right.at_ M.right.fn e1 e2 (low (by decide)) one
  | int n =>
    obtain ⟨kk, rfl⟩ := rx
    exact binD (op := .Mult) Fm I.mod.kin Ja (typeIs_int t n kk) look M.self M.left.at_ M.right.at_ M.right.fn PySem.F.fills_int_mul n2 PySem.F.slot_int_mul
      (fun R r => call_meets PySem.F.slot_int_mul (typeIs_int t n kk) PySem.F.entry_int_mul (PySem.F.args_int_mul_2 _ _) (mul_no n kk a C dx) ⟨O.obj, r⟩) one
  | bl b =>
    cases rx
    exact binD (op := .Mult) Fm I.mod.kin Ja (PySem.typeIs_bool t b) look M.self M.left.at_ M.right.at_ M.right.fn PySem.F.fills_bool_mul n2 PySem.F.slot_bool_mul
      (fun R r => call_meets PySem.F.slot_bool_mul (PySem.typeIs_bool t b) PySem.F.entry_int_mul (PySem.F.args_int_mul_2 _ _) (mul_noB b a C dx) ⟨O.obj, r⟩) one
end
end Tl

/-! Exceptions: X() of an own class, C(e) with an own __init__ where nothing is handled, a def called in an except suite that knows the exception, isinstance of it there. -/
namespace Tl
open PySem PySem.Spec PyProof.Rows L2
section
variable {X : Cx} {C : Addr} {bmB : List Value} {B newId initId : String}
/-- X() -/
theorem pmkN_own0 {x : Str} {p pos : Pos} (Fb : ExcBaseFacts B newId initId bmB) (hq : PySem.W.excIn X.K C bmB newId = true) (gC : X.mg x = some (.ref C)) (kC : PySem.W.keepIn X.K (.ref C) = true) (r : Raises X (.ref C)) (hg : Gl X x)
    (hdb : (x == ("__debug__" : Str)) = false := by decide) : L2N.PMk X (.Call (.Name x p) [] [] pos) (fun _ H Q => Q (.ref C) none H) := by
  intro pins s σ H Q I h
  refine wpAny_Call_Name_kw (ld_glob I hg gC ?_ hdb)
  refine PySem.W.callWith_K0 I.kIn kC ?_
  show wpAny _ _ (call (.ref C) []) _ _ _
  obtain ⟨bm, N, nm, qn, bs, hdct, sn, sub, ab, col, dd, k0, k1, k2, k3, k5, mN, hC, hN, hni, T⟩ := exc_obj I.kIn hq
  exact wpAny_call_exc_subT Fb T hC hN hni (fun h' e hm => L2N.mk_of I hm r h (I.hok.gone hm.new)) (Nat.zero_le _)
end
/-- C(e, ..) with an own __init__, nothing being handled -/
theorem pmkN_oex {X : Cx} {CX : CXT} {x : Str} {e : Expr} {es : List Expr} {ta : TA} {p pos : Pos} {C fI : Addr} {k : Nat} {fd : FuncData} {ps : List Str} {sp : Sp} (T : OexC X.K C) (iC : PySem.W.findIn X.K (.ref C) "__init__" = some (some (.ref fI))) (tI : PySem.W.typeIn X.K (.ref fI) = some (.type "function"))
    (Fi : FnOk X.prog X.w X.K X.mg X.base CX k fI fd ps sp) (hr : Room (k + 1) X.A) (hb : Binds X.K fd ps []) (hx : Passes CX X (fun _ _ _ => False)) (hg : Gl X x) (hm : X.mg x = some (.ref C)) (ha : PA X (e :: es) ta)
    (hdb : (x == ("__debug__" : Str)) = false := by decide) (he : starEach (e :: es) X.env = (false, eval e X.env) :: starEach es X.env := by rfl) (hpl : (backTo pos (starEach es X.env)).any (·.1) = false := by rfl) :
    L2N.PMk X (.Call (.Name x p) (e :: es) [] pos) (tMkO C sp [] ta) := by
  intro pins s σ H Q I h
  obtain ⟨nm, qn, N, bs, bm, sn, sub, ab, col, dd, k0, k1, k2, k3, k5, hC, hbm⟩ := T.cls
  refine wpAny_Call_Name_kw (ld_glob I hg hm ?_ hdb)
  refine PySem.W.callWith_K (h₀ := X.base) I.ok.mod.kin T.kC (thn (ha.run pos pins s σ H _ I h) fun us s1 ⟨vs, H1, I1, r1, hz, q1⟩ => ⟨I1.kIn, ?_⟩) he hpl
  show wpAny _ _ (call (.ref C) us) _ _ _
  obtain ⟨hh, gn, dr, tk, os⟩ := s1
  generalize hA : hh.objs.size + 1 = A
  have hle : hh.objs.size ≤ A := by
    rw [← hA]
    exact Nat.le_succ _
  have hq := q1 A (I1.hok.fresh hle)
  rw [List.append_nil] at hq
  generalize hG : (hh.push (PySem.W.kdv_tup us)).push (PySem.HandSPX.excO C hh.objs.size) = G
  have kk : ∀ b o, hh.get? b = some o → G.get? b = some o := fun b o z => by
    rw [← hG]
    exact Heap.get?_push_of_some _ (Heap.get?_push_of_some _ z)
  have hget : G.get? A = some (PySem.HandSPX.excO C hh.objs.size) := by
    rw [← hG, ← hA]
    heap_get
  have I2 : Inv X pins σ (upd H1 A (exo A C none)) ⟨G, gn, dr, tk, os⟩ := I1.laid (t' := tk) (a := A) (o := exo A C none) (h' := G) kk hle (exo_ok hget)
  have r2 : Vals (V.ref A :: vs) (Value.ref A :: us) := .cons rfl r1
  have hl : (Value.ref A :: us ++ []).length = ps.length := by
    rw [List.append_nil, ← Fi.len _ _ _ _ hq]
    exact r2.length.symm
  have hus : us.length ≤ sizeLine := by
    rw [← Paired.length r1, sizeLine_eq]
    omega
  have b2 := hb _ (Value.ref A :: us) I2.kIn hl
  rw [List.append_nil] at b2
  have run := Fi.run _ X.stack _ _ ⟨Value.ref A :: us, []⟩ (Value.ref A :: us) _ _ (fun _ _ _ => False) (hr.make C us []) (I2.env0.make C us []) b2 r2 hq
  subst hA hG
  refine wpAny_call (PySem.HandSPX.call_own F.excBase_ValueError (fun Y => PySem.HandSPX.refsVE_contains Y bm hbm) (I1.kIn _ _ hC) (PySem.W.looks_findIn I1.kIn iC) (fun self => PySem.W.bind_fn I1.kIn self tI) hus (codeAny_mono run fun r s' hq' => ?_))
  cases r with
  | error er => exact hx pins σ _ _ er s' I2 hq'
  | ok fl =>
    cases fl with
    | ret u =>
      obtain ⟨v, H2, os2, bare2, un2, hok2, rv, ev, d, fs, ea, ed, hd1, q2⟩ := hq'
      subst ev
      obtain ⟨h2, g2, d2, t2, os'⟩ := s'
      obtain ⟨t0, G2, J, kG, ge, hoe, na⟩ := mk_end0 (d2 := d2) (t2 := t2) I1 hle kk un2 hok2 os2 bare2 ea ed hd1
      refine ⟨rv, _, _, _, ⟨G2, g2, d2, t2, os'⟩, _, .ref C, some d, rfl, J, kG, ge, hoe, ⟨rfl, rfl, fun vs hv => ?_⟩, rfl, rfl, na, rfl, bare2, raises_own T.exC T.tyC, q2⟩
      cases hv
      rfl
    | next => exact False.elim hq'
    | brk => exact False.elim hq'
    | cont => exact False.elim hq'
end Tl

set_option autoImplicit false
set_option maxErrors 4
/-! Several clauses `except C as n`; isinstance of the exception that a suite holds, its dict there or not. -/
namespace Tl
open PySem PySem.Spec PyProof.Rows L2
open L2N (Zn)
/-- several clauses `except C as n` -/
def wNamed (K : PySem.W.Frag) (Wo : WX) (D : Ends) : List (Value × Nat × (Addr → Value → Option Addr → TS)) → WX
  | [] => Wo
  | (c, i, ts) :: more => fun cls d σ H => ∃ yes, PySem.W.exmOne K cls c = some yes ∧ (yes = false → wNamed K Wo D more cls d σ H) ∧
      (yes = true → ∀ a, H a = none → ts a cls d ⟨fun σ1 H1 => D.nx (σ1.set i none) H1, D.rt, fun σ1 H1 => D.bk (σ1.set i none) H1, fun σ1 H1 => D.ct (σ1.set i none) H1⟩ (σ.set i (some (.ref a))) H)
inductive Clauses (X : Cx) : List ExceptHandler → List (Value × Nat × (Addr → Value → Option Addr → TS)) → Prop
  | none : Clauses X [] []
  | more {x n : Str} {c : Value} {i : Nat} {ts : Addr → Value → Option Addr → TS} {st : Stmt} {sts : List Stmt} {p1 p2 : Pos} {hds : List ExceptHandler} {l : List (Value × Nat × (Addr → Value → Option Addr → TS))}
      (nm : Names X x c) (at_ : X.N[i]? = some n) (lo : X.env.kindOf n = some .local)
      (su : ∀ (a : Addr) (oe : Obj) (cls : Value) (d : Option Addr) (pn : List (Addr × Obj)), Zn cls d oe → (∃ vs, oe.data = .fields vs) → PSs (X.suite a ((a, oe) :: pn)) (st :: sts) (ts a cls d))
      (tl : Clauses X hds l) : Clauses X (.ExceptHandler (some (.Name x p1)) (some n) (st :: sts) p2 :: hds) ((c, i, ts) :: l)
/-- a caught exception at a, on the ground: what stood ahead of it, what it is -/
structure Down (X : Cx) (pins : List (Addr × Obj)) (σ : L2.St) (H : Hp) (cls : Value) (d : Option Addr) (a : Addr) (B : Heap) (s0 s3 : Shared) : Prop where
  inv : Inv X pins σ H s0
  low : ∀ b o, s0.heap.get? b = some o → b ∉ frs X.stack → B.get? b = some o
  up : s0.heap.UpToSlots s3.heap
  fly : HandSPX.FlyingZ B (X.env :: X.outer) a (Zn cls d) s3.heap
  os : s3.os = s0.os
  gs : AllBare s3.gens
  na : H a = none
section
variable {X : Cx} {pins : List (Addr × Obj)} {σ : L2.St} {H : Hp} {cls : Value} {d : Option Addr} {a : Addr} {B : Heap} {s0 s3 : Shared}
theorem Down.here (D : Down X pins σ H cls d a B s0 s3) : Inv X pins σ H s3 := D.inv.landed D.low D.fly.1 D.up D.os D.gs
theorem Down.next {hp : Heap} (D : Down X pins σ H cls d a B s0 s3) (f : HandSPX.FlyingZ B (X.env :: X.outer) a (Zn cls d) hp) (u : s3.heap.UpToSlots hp) : Down X pins σ H cls d a B s0 { s3 with heap := hp } :=
  ⟨D.inv, D.low, D.up.trans u, f, D.os, D.gs, D.na⟩
/-- the state as a suite sees it -/
theorem Down.inside (D : Down X pins σ H cls d a B s0 s3) (hf : X.env.frame = some X.env.locals) :
    ∃ oe vs, s3.heap.get? a = some oe ∧ Zn cls d oe ∧ oe.data = .fields vs ∧ Inv (X.suite a ((a, oe) :: (X.pn ++ pins))) [] σ H s3 := by
  obtain ⟨oe, vs, g, z, e⟩ := D.fly.there
  have off : a ∉ frs (X.env :: X.outer) := fun m => by
    obtain ⟨_, o2, g2, n2⟩ := D.fly.2.2.1.mem m
    rw [g] at g2
    cases g2
    exact n2 _ e
  refine ⟨oe, vs, g, z, e, D.here.suite g e D.na (fun q => off ?_) (fun m => off ?_)⟩
  · exact List.mem_filterMap.mpr ⟨_, List.mem_cons_self, by rw [hf, q]⟩
  · obtain ⟨v, vm, vq⟩ := List.mem_filterMap.mp m
    exact List.mem_filterMap.mpr ⟨v, List.mem_cons_of_mem _ vm, vq⟩
/-- one clause -/
theorem clause_one {x n : Str} {c : Value} {i : Nat} {yes : Bool} {ts : Addr → Value → Option Addr → TS} {st : Stmt} {sts : List Stmt} {p1 p2 : Pos} {hds : List ExceptHandler} {E : Ends}
    (D : Down X pins σ H cls d a B s0 s3) (hf : X.env.frame = some X.env.locals) (nd : X.N.Nodup) (nm : Names X x c) (at_ : X.N[i]? = some n) (lo : X.env.kindOf n = some .local)
    (su : ∀ (a : Addr) (oe : Obj) (cls : Value) (d : Option Addr) (pn : List (Addr × Obj)), Zn cls d oe → (∃ vs, oe.data = .fields vs) → PSs (X.suite a ((a, oe) :: pn)) (st :: sts) (ts a cls d))
    (hy : PySem.W.exmOne X.K cls c = some yes) (no : yes = false → wpAny (model X.prog X.w) X.A (handleBy (.ref a) X.env hds) (SP X pins E) X.xe s3)
    (ok : yes = true → ts a cls d ⟨fun σ1 H1 => E.nx (σ1.set i none) H1, E.rt, fun σ1 H1 => E.bk (σ1.set i none) H1, fun σ1 H1 => E.ct (σ1.set i none) H1⟩ (σ.set i (some (.ref a))) H) :
    wpAny (model X.prog X.w) X.A (handleBy (.ref a) X.env (.ExceptHandler (some (.Name x p1)) (some n) (st :: sts) p2 :: hds)) (SP X pins E) X.xe s3 := by
  obtain ⟨o1, w1, g1, z1, e1, I1⟩ := D.inside hf
  have TY : PySem.W.Looks (model X.prog X.w) s3.heap (typeOf (.ref a)) cls := fun _ _ _ _ k q => wpAny_typeOf_ref (k _ _ g1) (by rw [z1.1]; exact q)
  have asked := PySem.W.exm_one (M := model X.prog X.w) D.here.kIn TY hy
  refine wpAny_handleBy_cons (codeAny_handlers_test ?_) fun q => by cases q
  have word : ∀ {Q E : Value → Shared → Prop}, Q c s3 → wpAny (model X.prog X.w) (X.A.mark (some (.ref a))) (eval (.Name x p1) X.env) Q E s3 := by
    intro Q E q
    obtain ⟨gl, nb, mine | ⟨other, boot, nn⟩⟩ := nm
    · exact ld_glob I1 gl mine q nb
    · exact ld_blt I1 gl other boot q nn nb
  refine word (asked.here ?_)
  cases yes with
  | false => exact no rfl
  | true =>
    refine codeAny_handlers_suite_as (HandSPX.lands_againZ D.fly fun hp f u => ?_)
    have D2 := D.next f u
    obtain ⟨o2, w2, g2, z2, e2, I2⟩ := D2.inside hf
    refine store_ok (X := X.suite a ((a, o2) :: (X.pn ++ pins))) (v := .ref a) I2 nd at_ (.inl lo) rfl (fun s5 I5 => ?_) (.inr lo)
    refine wpAny_mono ((su a o2 cls d _ z2 ⟨_, e2⟩).run [] s5 _ H _ I5 (ok rfl)) (fun fl s6 h6 => ?_) fun _ _ z => z.elim
    have leave : ∀ {σ6 : L2.St} {H6 : Hp} {R : Shared → Prop}, Inv (X.suite a ((a, o2) :: (X.pn ++ pins))) [] σ6 H6 s6 → (∀ s7, Inv X pins (σ6.set i none) H6 s7 → R s7) →
        wpAny (model X.prog X.w) X.A (do bindName X.env n .none; unbindBehindTheSuite X.env n p2) (fun _ s7 => R s7) X.xe s6 := fun I6 r => gone_ok (I6.unsuite D.inv.ok) nd at_ lo r
    cases fl with
    | ret u =>
      obtain ⟨v6, _, _, I6, r6, q6⟩ := h6
      exact leave I6 fun _ I7 => ⟨v6, _, _, I7, r6, q6⟩
    | next =>
      obtain ⟨_, _, I6, q6⟩ := h6
      exact leave I6 fun _ I7 => ⟨_, _, I7, q6⟩
    | brk =>
      obtain ⟨_, _, I6, q6⟩ := h6
      exact leave I6 fun _ I7 => ⟨_, _, I7, q6⟩
    | cont =>
      obtain ⟨_, _, I6, q6⟩ := h6
      exact leave I6 fun _ I7 => ⟨_, _, I7, q6⟩
/-- no clause took it -/
theorem clause_none {Wo : WX} {Q : Flow → Shared → Prop} (D : Down X pins σ H cls d a B s0 s3) (hs : X.stack = X.env :: X.outer) (hf : X.env.frame = some X.env.locals) (tk : L2N.Takes X Wo) (q : Wo cls d σ H) :
    wpAny (model X.prog X.w) X.A (handleBy (.ref a) X.env []) Q X.xe s3 := by
  obtain ⟨_, _, _, oe, w, T, _, _, g, _, e, t1, _⟩ := id D.fly
  refine wpAny_handleBy_nil ?_
  unfold PySem.passOn
  refine wpAny_bind (wpAny_field g e t1 ?_)
  rw [if_neg (by simp)]
  have out : wpAny (model X.prog X.w) X.A (setFlight (.ref a) X.env.frame) (fun _ s4 => wpAny (model X.prog X.w) X.A (throw (.ref a) : Sem Flow) Q X.xe s4) X.xe s3 := by
    rw [hf]
    refine HandSPX.setFlight_upZ D.fly fun hp held u => wpAny_throw (tk _ _ ⟨a, B, s0, pins, σ, H, cls, d, rfl, D.inv, D.low, D.up.trans u, .inr (.inr (by rw [hs]; exact held)), D.na, D.os, D.gs, q⟩)
  first
    | exact wpAny_bind (wpAny_pure (wpAny_bind out))
    | exact wpAny_bind out
theorem clauses_run {Wo : WX} {E : Ends} (hs : X.stack = X.env :: X.outer) (hf : X.env.frame = some X.env.locals) (nd : X.N.Nodup) (tk : L2N.Takes X Wo) (D : Down X pins σ H cls d a B s0 s3) :
    ∀ {hds : List ExceptHandler} {l : List (Value × Nat × (Addr → Value → Option Addr → TS))}, Clauses X hds l → wNamed X.K Wo E l cls d σ H → wpAny (model X.prog X.w) X.A (handleBy (.ref a) X.env hds) (SP X pins E) X.xe s3 := by
  intro hds l cl
  induction cl with
  | none => exact fun q => clause_none D hs hf tk q
  | more nm at_ lo su tl ih =>
    rintro ⟨yes, hy, no, ok⟩
    exact clause_one D hf nd nm at_ lo su hy (fun n => ih (no n)) fun y => ok y a D.na
end
/-- try: body; except C1 as n: ..; except C2 as n: .. -/
theorem ps_try_named {X : Cx} {body : List Stmt} {h1 : ExceptHandler} {hds : List ExceptHandler} {l : List (Value × Nat × (Addr → Value → Option Addr → TS))} {pos : Pos} {tb : WX → TS} {Wo : WX}
    (hs : X.stack = X.env :: X.outer) (hf : X.env.frame = some X.env.locals) (nd : X.N.Nodup) (tk : L2N.Takes X Wo)
    (hb : ∀ (W : WX) (pn : List (Addr × Obj)) (xe : Value → Shared → Prop), L2N.Takes (X.tr pn xe) W → PassesOwn (model X.prog X.w) X.A X.env xe → PSs (X.tr pn xe) body (tb W))
    (cl : Clauses X (h1 :: hds) l) : PS X (.Try body (h1 :: hds) [] [] pos) (fun E σ H => tb (wNamed X.K Wo E l) E σ H) := by
  refine ⟨fun pins s σ H E I q => wpAny_Try_except (wpAny_mono ((hb _ (X.pn ++ pins) (fun u s1 => wpAny (model X.prog X.w) X.A (noteFrame u X.env) (fun _ s2 => wpAny (model X.prog X.w) X.A (setFlight u none) (fun _ s3 =>
    wpAny (model X.prog X.w) X.A (handleBy u X.env (h1 :: hds)) (SP X pins E) X.xe s3) X.xe s2) X.xe s1) (fun u s1 xx => ?_) PassesOwn.looking).run [] s σ H E (I.toTry _) q) (fun fl s1 h => ?_) fun _ _ z => z)⟩
  · obtain ⟨a, B, s0, pins2, σ1, H1, cls, d, rfl, J, low, up, sky, na, os, gs, w⟩ := xx
    have fr : X.A.frames = some (X.env :: X.outer) := by rw [I.ok.frames, hs]
    show wpAny _ X.A (noteFrame (.ref a) X.env) _ _ _
    refine L2N.Sky.land L2N.Zn.steady fr hf (by rw [← hs]; exact sky) fun hp fly u => ?_
    exact clauses_run hs hf nd tk (s0 := s0) (s3 := { s1 with heap := hp }) ⟨J.ofTry I.ok, low, up.trans u, fly, os, gs, na⟩ cl w
  · cases fl with
    | ret u =>
      obtain ⟨v, _, _, J, r, z⟩ := h
      exact ⟨v, _, _, J.ofTry I.ok, r, z⟩
    | next =>
      obtain ⟨_, _, J, z⟩ := h
      exact wpAny_execs_nil ⟨_, _, J.ofTry I.ok, z⟩
    | brk =>
      obtain ⟨_, _, J, z⟩ := h
      exact ⟨_, _, J.ofTry I.ok, z⟩
    | cont =>
      obtain ⟨_, _, J, z⟩ := h
      exact ⟨_, _, J.ofTry I.ok, z⟩
/-- isinstance(e, C), e the exception at p -/
def rIsP (K : PySem.W.Frag) (p : Addr × Obj) : List V → Hp → VK → Prop := fun xs H Q => ∃ (D : Addr) (d : Option Addr) (c : V) (cv : Value) (b : Bool), xs = [.ref p.1, c] ∧ ExcC K D ∧ Zn (.ref D) d p.2 ∧ (∃ vs, p.2.data = .fields vs) ∧
  (∀ dx, d = some dx → ∃ fs, H dx = some (.xd fs)) ∧ (∀ u, RelV c u → u = cv) ∧ PySem.W.kitOne K (.ref D) cv = some b ∧ Q (.bl b) H
theorem call_isP {X : Cx} {p : Addr × Obj} (hp : p ∈ X.pn) : CallR X (.builtin "isinstance") (rIsP X.K p) := by
  intro pins s σ H xs us Q I r h
  obtain ⟨D, d, c, cv, b, rfl, C, z, ⟨w, e⟩, hd, hc, hk, q⟩ := h
  cases r with
  | cons r1 rr =>
    cases rr with
    | cons r2 rr =>
      cases rr
      cases r1
      have ec := hc _ r2
      subst ec
      obtain ⟨g, _⟩ := I.pin p (List.mem_append.mpr (.inl hp))
      have cl : (PySem.W.clsIn X.K D).isSome = true := by
        obtain ⟨cd, h1, _⟩ := PySem.W.any_some C.hd
        rw [h1]
        rfl
      have J : ∃ od, PySem.W.InstAt s.heap p.1 p.2 D od := by
        cases d with
        | none => exact ⟨none, g, z.1, by unfold PySem.W.notCls; rw [e] <;> rfl, by rw [z.2.1]; trivial⟩
        | some dx =>
          obtain ⟨fs, hx⟩ := hd dx rfl
          obtain ⟨mA, hn, _⟩ : ObjOk X.prog X.w H s.heap dx (.xd fs) := I.hok dx _ hx
          obtain ⟨od, _, _, ho, _⟩ := hn
          exact ⟨some od, g, z.1, by unfold PySem.W.notCls; rw [e] <;> rfl, by rw [z.2.1]; exact ho⟩
      obtain ⟨od, J⟩ := J
      exact PySem.W.kia_one (PySem.W.kitx_exc cl C.hg C.hk C.hs C.ha C.hn C.ht C.hm) I.kIn J hk (fun z => nomatch z) fun tk => ⟨.bl b, H, I.kept (t' := tk) fun _ _ z => z, rfl, q⟩
end Tl

set_option autoImplicit false
set_option maxErrors 4
/-! Defs called within an except suite whose promise speaks of the exception that is handled. -/
namespace Tl
open PySem PySem.Spec PyProof.Rows L2
open L2N (Zn)
/-- the context handles p's object -/
def HotP (X : Cx) (p : Addr × Obj) : Prop := L2H.Hot1 X.A p ∧ p ∈ X.pn
theorem hotP_suite {X : Cx} {a : Addr} {oe : Obj} {cls : Value} {d : Option Addr} {pn : List (Addr × Obj)} (z : Zn cls d oe) (e : ∃ vs, oe.data = .fields vs) : HotP (X.suite a ((a, oe) :: pn)) (a, oe) := by
  obtain ⟨vs, e⟩ := e
  exact ⟨⟨rfl, vs, e, z.2.2 vs e⟩, List.mem_cons_self ..⟩
/-- what such a def promises: sp speaks of the exception, too -/
structure FnHP (P : Program) (w : World) (K : PySem.W.Frag) (mg : Str → Option Value) (base : Heap) (CX : CXT) (k : Nat) (f : Addr) (fd : FuncData) (ps : List Str) (sp : Addr × Obj → Sp) : Prop where
  many : ∀ p vs H Q E, sp p vs H Q E → vs.length = ps.length
  does : ∀ (p : Addr × Obj) (A : Around) (outer : List Env) (s : Shared) (H : Hp) (args : Args) (us : List Value) (vs : List V) (Q : VK) (E : XK), L2H.RoomH k A → L2H.Hot1 A p → L2H.PinOk outer H s p → Env0 P w K mg base A outer s H →
    BindsTo s fd args (ps.zip us) → Vals vs us → sp p vs H Q E → codeAny (model P w) A (.call (.ref f) args) (CR CX outer P w H s Q E) s
section
variable {P : Program} {w : World} {K : PySem.W.Frag} {mg : Str → Option Value} {base : Heap} {CX : CXT}
theorem fn_ofHP {k : Nat} {f : Addr} {name qual : Str} {params : Arguments} {body : List Stmt} {scope : Scope} {dV kV doc pm cdv ct oc : Value} {an od : Option Addr} {osl : Array (Option Value)} {N ps : List Str} {sp : Addr × Obj → Sp}
    (at_ : K.lookup f = some ⟨oc, od, .func (PySem.W.fnOf name qual params body scope dV kV doc pm an cdv ct), osl⟩) (code : PySem.W.codeIn K cdv qual = true) (S : FnScope N ps scope) (many : ∀ p vs H Q E, sp p vs H Q E → vs.length = ps.length)
    (inner : ∀ (p : Addr × Obj) (A : Around) (outer : List Env) (s : Shared) (H : Hp) (vs : List V) (Q : VK) (E : XK), L2H.Hot1 A p → L2H.RoomH k (A.deeper (envOfC qual scope s.heap.objs.size f cdv)) → sp p vs H Q E →
      ∃ t, PSs (L2H.cxH CX P w K mg base N qual scope f cdv A outer s H E p) body t ∧ t { nx := fun _ H' => Q .non H', rt := Q } (L2.start N vs) H) :
    FnHP P w K mg base CX (k + 1) f (PySem.W.fnOf name qual params body scope dV kV doc pm an cdv ct) ps sp := by
  refine ⟨many, fun p A outer s H args us vs Q E room hot pin e0 bd rel h => ?_⟩
  have kin : K.In s.heap := e0.mod.kin.keeps fun _ _ g => (e0.bs _ _ g).1
  have places : ∀ y ∈ ps.zip us, scope.names.lookup y.1 = some .local ∨ (scope.names.lookup y.1 = some .cell ∧ ((cellsFrom (s.heap.objs.size + 1) scope.names []).lookup y.1).isSome = true) := by
    rintro ⟨n, v⟩ hy
    cases S.par n (List.of_mem_zip hy).1 with
    | inl q => exact .inl q
    | inr q => exact .inr ⟨q, PySem.W.cellsFrom_some _ _ _ (.inl q)⟩
  refine codeAny_call_function room.depth (kin _ _ at_) rfl S.co S.gen rfl (PySem.W.codeRec_of kin code) (bd _ _ _ _ (wpAny_newFunctionEnv_cells S.kind places fun env he s1 x => ?_))
  subst he
  refine ⟨e0.mod.nolimit.keeps fun _ _ g => (x.toInCall.keep _ _ (e0.bs _ _ g).1), codeAny_func ?_⟩
  obtain ⟨t, ht, q⟩ := inner p A outer s H vs Q E hot (room.deeper _) h
  have I := L2H.inv_startH (CX := CX) (E := E) S pin e0 (many _ _ _ _ _ h) rel x
  refine wpAny_mono (ht.run [] s1 (L2.start N vs) H _ I q) (fun fl s2 h2 => ?_) fun _ _ z => z
  have done : ∀ {σ2 : L2.St} {H2 : Hp} {v : V} {u : Value}, Inv (L2H.cxH CX P w K mg base N qual scope f cdv A outer s H E p) [] σ2 H2 s2 → RelV v u → Q v H2 → CE outer P w H s Q u s2 :=
    fun J r q => ⟨_, _, J.os, J.bare, J.base, J.hok, r, q⟩
  cases fl with
  | next =>
    obtain ⟨_, _, J, q⟩ := h2
    exact done (v := V.non) (u := Value.none) J rfl q
  | ret u =>
    obtain ⟨_, _, _, J, r, q⟩ := h2
    exact done J r q
  | brk =>
    obtain ⟨_, _, _, q⟩ := h2
    exact q.elim
  | cont =>
    obtain ⟨_, _, _, q⟩ := h2
    exact q.elim
end
section
variable {X : Cx} {CX : CXT} {k : Nat} {f : Addr} {fd : FuncData} {ps : List Str} {sp : Addr × Obj → Sp} {E : L2.St → XK} {x : Str} {q pos : Pos} {e : Expr} {es : List Expr} {t : TA} {p : Addr × Obj}
theorem pe_callHP {sq : Sp} (F : FnHP X.prog X.w X.K X.mg X.base CX k f fd ps sp) (weak : ∀ vs H Q E, sq vs H Q E → sp p vs H Q E) (room : L2H.RoomH k X.A) (hot : HotP X p) (hg : Gl X x) (hm : X.mg x = some (.ref f)) (hk : PySem.W.keepIn X.K (.ref f) = true) (hb : Binds X.K fd ps []) (hx : ∀ σ, PassesAt CX X σ (E σ))
    (ha : PA X (e :: es) t) (hdb : (x == ("__debug__" : Str)) = false := by decide) (he : starEach (e :: es) X.env = (false, eval e X.env) :: starEach es X.env := by rfl) (hpl : (backTo pos (starEach es X.env)).any (·.1) = false := by rfl) :
    PE X (.Call (.Name x q) (e :: es) [] pos) (tCallS sq E t) := by
  refine ⟨fun pins s σ H Q I h => wpAny_Call_Name_kw (ld_glob I hg hm (PySem.W.callWith_K (h₀ := X.base) I.ok.mod.kin hk (thn (ha.run pos pins s σ H _ I h) fun us s1 ⟨vs, H1, I1, r, y⟩ => ⟨I1.kIn, ?_⟩) he hpl) hdb)⟩
  have z := weak _ _ _ _ y
  have n : us.length = ps.length := r.length.symm.trans (F.many _ _ _ _ _ z)
  have b := hb s1 us I1.kIn (by rw [List.append_nil]; exact n)
  rw [List.append_nil] at b
  obtain ⟨g, fr, ne, nf, nc⟩ := I1.pin p (List.mem_append_left _ hot.2)
  have off : p.1 ∉ frs X.stack := fun m => by
    cases List.mem_cons.mp (I1.stkSub p.1 m) with
    | inl y => exact ne y
    | inr y => exact nf y
  refine wpAny_call (codeAny_mono (F.does p X.A X.stack s1 H1 ⟨us, []⟩ us vs Q (E σ) room hot.1 ⟨g, fr, off, nc⟩ I1.env0 b r z) fun res s2 y => ?_)
  cases res with
  | error er => exact hx σ pins H1 s1 er s2 I1 y
  | ok fl =>
    cases fl with
    | ret u => exact I1.after y
    | next => exact y.elim
    | brk => exact y.elim
    | cont => exact y.elim
end
end Tl

set_option autoImplicit false
set_option maxErrors 4
/-! A family of exception classes of the program: what the head reads of them. -/
namespace Tl
open PySem PySem.Spec PyProof.Rows L2
section
variable {K : PySem.W.Frag} {C : Addr}
def excCB (K : PySem.W.Frag) (D : Addr) : Bool := He.eqO (PySem.W.findIn K (.ref D) "__getattribute__") (some (some (.builtin "BaseException.__getattribute__"))) && (He.eqO (PySem.W.findIn K (.ref D) "__getattr__") (some none) &&
  (decide (PySem.W.subIn K (.ref D) (.type "BaseException") = some true) && (PySem.W.hasDictIn K D && (He.eqO (PySem.W.findIn K (.ref D) "__class__") (some (some (.builtin "object.__class__"))) &&
  (He.eqO (PySem.W.specialIn K (.builtin "object.__class__") "__get__") (some (some (.builtin "getset_descriptor.__get__"))) && (decide (PySem.W.takesIn K (.builtin "object.__class__") = some true) && decide (PySem.W.mroIn K D (.type "object") = some true)))))))
theorem excCB_ok (h : excCB K C = true) : ExcC K C := by
  obtain ⟨a1, h⟩ := He.ba h
  obtain ⟨a2, h⟩ := He.ba h
  obtain ⟨a3, h⟩ := He.ba h
  obtain ⟨a4, h⟩ := He.ba h
  obtain ⟨a5, h⟩ := He.ba h
  obtain ⟨a6, h⟩ := He.ba h
  obtain ⟨a7, h⟩ := He.ba h
  exact ⟨He.eqO_ok a1, He.eqO_ok a2, of_decide_eq_true a3, a4, He.eqO_ok a5, He.eqO_ok a6, of_decide_eq_true a7, of_decide_eq_true h⟩
/-- the class object of an exception class with an own __init__ -/
def oexO (C : Addr) : Option Obj → Bool
  | some ⟨.type "type", _, .cls cd, sl⟩ => (match cd.mro, sl.toList with
    | .ref D :: bm, [_, _, _, _, some (.builtin n), _] => decide (D = C) && (decide (n = "ValueError.__new__") && (!cd.hasDel && (cd.hasDict && PySem.HandSPX.refsVE bm)))
    | _, _ => false)
  | _ => false
theorem oexO_ok {r : Option Obj} (h : oexO C r = true) : ∃ nm q N bs bm sn sub ab col dd k0 k1 k2 k3 k5, r = some (excClassObj nm q C N bs bm true sn sub ab col dd k0 k1 k2 k3 k5 "ValueError.__new__") ∧ PySem.HandSPX.refsVE bm = true := by
  unfold oexO at h
  split at h
  · rename_i dd cd sl
    split at h
    · rename_i D bm k0 k1 k2 k3 n k5 hm hs
      obtain ⟨e1, h1⟩ := He.ba h
      obtain ⟨e2, h2⟩ := He.ba h1
      obtain ⟨e3, h3⟩ := He.ba h2
      obtain ⟨e4, h4⟩ := He.ba h3
      have e1 := of_decide_eq_true e1
      have e2 := of_decide_eq_true e2
      subst e1 e2
      obtain ⟨nm, bs, mro, ns, qn, hd, sn, sub, ab, col, de⟩ := cd
      dsimp only at hm e3 e4
      have e3 : de = false := by simpa using e3
      subst hm e3 e4
      have es : sl = #[k0, k1, k2, k3, some (.builtin "ValueError.__new__"), k5] := by
        obtain ⟨l⟩ := sl
        simp only at hs
        rw [hs]
      subst es
      exact ⟨nm, qn, ns, bs, bm, sn, sub, ab, col, dd, k0, k1, k2, k3, k5, rfl, h4⟩
    · cases h
  · cases h
def oexB (K : PySem.W.Frag) (C : Addr) : Bool := oexO C (K.lookup C) && (He.eqO (PySem.W.findIn K (.ref C) "__setattr__") (some (some (.builtin "object.__setattr__"))) && (decide (PySem.W.subIn K (.ref C) (.type "BaseException") = some true) &&
  (decide (PySem.W.typeIn K (.ref C) = some (.type "type")) && PySem.W.keepIn K (.ref C))))
theorem oexB_ok (h : oexB K C = true) : OexC K C := by
  obtain ⟨a1, h⟩ := He.ba h
  obtain ⟨a2, h⟩ := He.ba h
  obtain ⟨a3, h⟩ := He.ba h
  obtain ⟨a4, h⟩ := He.ba h
  obtain ⟨nm, q, N, bs, bm, sn, sub, ab, col, dd, k0, k1, k2, k3, k5, e, r⟩ := oexO_ok a1
  exact ⟨⟨nm, q, N, bs, bm, sn, sub, ab, col, dd, k0, k1, k2, k3, k5, e, r⟩, He.eqO_ok a2, of_decide_eq_true a3, of_decide_eq_true a4, h⟩
end
/-- the address of the i-th name -/
def cA (K : PySem.W.Frag) (cn : List Str) (i : Nat) : Addr := He.ga K (cn.getD i "")
def pairB (K : PySem.W.Frag) (cn : List Str) : Bool := (List.range cn.length).all fun i => (List.range cn.length).all fun j =>
  decide (PySem.W.kitOne K (.ref (cA K cn i)) (.ref (cA K cn j)) = some (decide (i = j))) && decide (PySem.W.exmOne K (.ref (cA K cn i)) (.ref (cA K cn j)) = some (decide (i = j)))
def eachB (K : PySem.W.Frag) (cn : List Str) : Bool := (List.range cn.length).all fun i => excCB K (cA K cn i) && (decide (PySem.W.exmOne K (.ref (cA K cn i)) (.ref (He.ga K "TownError")) = some true) && decide (PySem.W.kitOne K (.ref (cA K cn i)) (.type "ValueError") = some true))
def ownB (K : PySem.W.Frag) (cn : List Str) (n : Nat) : Bool := (List.range cn.length).all fun i => decide (i < n) || (oexB K (cA K cn i) && xfB K (cA K cn i))
def townB (K : PySem.W.Frag) (cn : List Str) (n : Nat) : Bool := eachB K cn && (pairB K cn && ownB K cn n)
structure Town (K : PySem.W.Frag) (cn : List Str) (n : Nat) : Prop where
  exc : ∀ i, i < cn.length → ExcC K (cA K cn i)
  base : ∀ i, i < cn.length → PySem.W.exmOne K (.ref (cA K cn i)) (.ref (He.ga K "TownError")) = some true
  ve : ∀ i, i < cn.length → PySem.W.kitOne K (.ref (cA K cn i)) (.type "ValueError") = some true
  is : ∀ i j, i < cn.length → j < cn.length → PySem.W.kitOne K (.ref (cA K cn i)) (.ref (cA K cn j)) = some (decide (i = j))
  ca : ∀ i j, i < cn.length → j < cn.length → PySem.W.exmOne K (.ref (cA K cn i)) (.ref (cA K cn j)) = some (decide (i = j))
  own : ∀ i, n ≤ i → i < cn.length → OexC K (cA K cn i)
  fld : ∀ i, n ≤ i → i < cn.length → XfC K (cA K cn i)
theorem townB_ok {K : PySem.W.Frag} {cn : List Str} {n : Nat} (h : townB K cn n = true) : Town K cn n := by
  obtain ⟨e, h⟩ := He.ba h
  obtain ⟨p, o⟩ := He.ba h
  have e1 := fun i (hi : i < cn.length) => He.ba (List.all_eq_true.mp e i (List.mem_range.mpr hi))
  have p1 := fun i j (hi : i < cn.length) (hj : j < cn.length) => He.ba (List.all_eq_true.mp (List.all_eq_true.mp p i (List.mem_range.mpr hi)) j (List.mem_range.mpr hj))
  have o1 : ∀ i, n ≤ i → i < cn.length → oexB K (cA K cn i) = true ∧ xfB K (cA K cn i) = true := fun i hn hi => by
    have z := List.all_eq_true.mp o i (List.mem_range.mpr hi)
    rw [Bool.or_eq_true, decide_eq_true_eq] at z
    exact z.elim (fun y => absurd y (Nat.not_lt.mpr hn)) He.ba
  exact ⟨fun i hi => excCB_ok (e1 i hi).1, fun i hi => of_decide_eq_true (He.ba (e1 i hi).2).1, fun i hi => of_decide_eq_true (He.ba (e1 i hi).2).2, fun i j hi hj => of_decide_eq_true (p1 i j hi hj).1, fun i j hi hj => of_decide_eq_true (p1 i j hi hj).2,
    fun i hn hi => oexB_ok (o1 i hn hi).1, fun i hn hi => xfB_ok (o1 i hn hi).2⟩
end Tl

set_option autoImplicit false
set_option maxErrors 4
/-! What the head reads of two own classes and two errors. -/
namespace Tl
open PySem PySem.Spec PyProof.Rows L2
section
variable {K : PySem.W.Frag} {S D A B T : Addr}
/-- isinstance reads the class of an instance -/
structure Sees (K : PySem.W.Frag) (S : Addr) : Prop where
  c1 : PySem.W.findIn K (.ref S) "__class__" = some (some (.builtin "object.__class__"))
  c2 : PySem.W.specialIn K (.builtin "object.__class__") "__get__" = some (some (.builtin "getset_descriptor.__get__"))
  c3 : PySem.W.takesIn K (.builtin "object.__class__") = some true
  c4 : PySem.W.mroIn K S (.type "object") = some true
def seesB (K : PySem.W.Frag) (S : Addr) : Bool := (He.eqO (PySem.W.findIn K (.ref S) "__class__") (some (some (.builtin "object.__class__"))) && He.eqO (PySem.W.specialIn K (.builtin "object.__class__") "__get__") (some (some (.builtin "getset_descriptor.__get__")))) &&
  (decide (PySem.W.takesIn K (.builtin "object.__class__") = some true) && decide (PySem.W.mroIn K S (.type "object") = some true))
theorem seesB_ok (h : seesB K S = true) : Sees K S := by
  obtain ⟨a, b⟩ := He.ba h
  obtain ⟨a1, a2⟩ := He.ba a
  obtain ⟨b1, b2⟩ := He.ba b
  exact ⟨He.eqO_ok a1, He.eqO_ok a2, of_decide_eq_true b1, of_decide_eq_true b2⟩
theorem Sees.ty {H : Hp} {a dx : Addr} {fs : List (Str × V)} (s : Sees K S) (c : Cls K S) (e : H a = some (.ins S dx fs)) : TyX K H (.ref a) (.ref S) := .base (.ins e c s.c1 s.c2 s.c3 s.c4)
/-- no built-in value is an S; an S is none of these; a D is no S and no text -/
structure Apart (K : PySem.W.Frag) (S D : Addr) : Prop where
  no : ∀ t ∈ ["NoneType", "bool", "int", "str", "list", "tuple", "dict"], PySem.W.kitOne K (.type t) (.ref S) = some false
  own : PySem.W.kitOne K (.ref S) (.ref S) = some true
  off : ∀ t ∈ ["str", "list", "tuple", "int", "bool"], PySem.W.kitOne K (.ref S) (.type t) = some false
  dS : PySem.W.kitOne K (.ref D) (.ref S) = some false
  dOff : ∀ t ∈ ["str", "list", "tuple", "int", "bool"], PySem.W.kitOne K (.ref D) (.type t) = some false
def apartB (K : PySem.W.Frag) (S D : Addr) : Bool := ((["NoneType", "bool", "int", "str", "list", "tuple", "dict"].all fun t => decide (PySem.W.kitOne K (.type t) (.ref S) = some false)) && decide (PySem.W.kitOne K (.ref S) (.ref S) = some true)) &&
  ((["str", "list", "tuple", "int", "bool"].all fun t => decide (PySem.W.kitOne K (.ref S) (.type t) = some false)) && (decide (PySem.W.kitOne K (.ref D) (.ref S) = some false) && (["str", "list", "tuple", "int", "bool"].all fun t => decide (PySem.W.kitOne K (.ref D) (.type t) = some false))))
theorem apartB_ok (h : apartB K S D = true) : Apart K S D := by
  obtain ⟨a, b⟩ := He.ba h
  obtain ⟨a1, a2⟩ := He.ba a
  obtain ⟨b1, b⟩ := He.ba b
  obtain ⟨b2, b3⟩ := He.ba b
  exact ⟨fun t ht => of_decide_eq_true (List.all_eq_true.mp a1 t ht), of_decide_eq_true a2, fun t ht => of_decide_eq_true (List.all_eq_true.mp b1 t ht), of_decide_eq_true b2, fun t ht => of_decide_eq_true (List.all_eq_true.mp b3 t ht)⟩
/-- two errors under T: A without an __init__, B with one -/
structure Errs (K : PySem.W.Frag) (A B T : Addr) : Prop where
  eA : ExcC K A
  eB : ExcC K B
  mA : PySem.W.exmOne K (.ref A) (.ref A) = some true
  mB : PySem.W.exmOne K (.ref B) (.ref B) = some true
  tA : PySem.W.kitOne K (.ref A) (.ref T) = some true
  vA : PySem.W.kitOne K (.ref A) (.type "ValueError") = some true
  oB : OexC K B
  xB : XfC K B
def errsB (K : PySem.W.Frag) (A B T : Addr) : Bool := ((excCB K A && excCB K B) && (decide (PySem.W.exmOne K (.ref A) (.ref A) = some true) && decide (PySem.W.exmOne K (.ref B) (.ref B) = some true))) &&
  ((decide (PySem.W.kitOne K (.ref A) (.ref T) = some true) && decide (PySem.W.kitOne K (.ref A) (.type "ValueError") = some true)) && (oexB K B && xfB K B))
theorem errsB_ok (h : errsB K A B T = true) : Errs K A B T := by
  obtain ⟨a, b⟩ := He.ba h
  obtain ⟨a1, a2⟩ := He.ba a
  obtain ⟨b1, b2⟩ := He.ba b
  obtain ⟨c1, c2⟩ := He.ba a1
  obtain ⟨c3, c4⟩ := He.ba a2
  obtain ⟨c5, c6⟩ := He.ba b1
  obtain ⟨c7, c8⟩ := He.ba b2
  exact ⟨excCB_ok c1, excCB_ok c2, of_decide_eq_true c3, of_decide_eq_true c4, of_decide_eq_true c5, of_decide_eq_true c6, oexB_ok c7, xfB_ok c8⟩
end
end Tl

namespace K06
open PySem PySem.Spec PyProof.Rows L2
/-! ### the text -/
def top (i : Nat) : Stmt := PySem.Challenge.pw_townlines_k06_kinds_refuse.main.body.getD i (.Pass ⟨0, 0, 0, 0⟩)
abbrev s_is_integer : Stmt := top 2
abbrev s_is_integer_within : Stmt := top 3
abbrev s_is_row : Stmt := top 4
abbrev s_BadNumber_init_ : Stmt := inClass (top 10) 0
abbrev s_Net_init_ : Stmt := inClass (top 13) 0
abbrev s_places_by_char : Stmt := top 14
abbrev s_place_count : Stmt := top 15
abbrev s_run_net : Stmt := top 16
abbrev s_renumbered : Stmt := top 17
abbrev s_chained : Stmt := top 18
abbrev s_side_by_side : Stmt := top 19
abbrev s_Signs_init_ : Stmt := inClass (top 27) 0
abbrev s_is_sign_text : Stmt := top 29
abbrev s_is_signs : Stmt := top 30
abbrev s_signs_of : Stmt := top 31
abbrev s_Kind_init_ : Stmt := inClass (top 42) 0
abbrev s_Kindrun : Stmt := inClass (top 42) 1
abbrev s_Kindwords : Stmt := inClass (top 42) 2
abbrev s_Kind_add_ : Stmt := inClass (top 42) 3
abbrev s_Kind_mul_ : Stmt := inClass (top 42) 5
abbrev s_Kind_rmul_ : Stmt := inClass (top 42) 6
abbrev s_Kindalternatives : Stmt := inClass (top 42) 10
abbrev s_are_bounds : Stmt := top 43
abbrev s_is_short_text : Stmt := top 44
abbrev s_without_repeats : Stmt := top 45
abbrev s_is_too_large : Stmt := top 46
abbrev s_alternative_net : Stmt := top 47
abbrev s_l_bag : Stmt := top 50
abbrev s_l_draw : Stmt := top 51
abbrev s_l_alphabet : Stmt := top 52
abbrev s_l_letters : Stmt := top 53
abbrev s_l_is_integer : Stmt := top 54
abbrev s_l_run_told : Stmt := top 55
abbrev s_l_words_told : Stmt := top 56
abbrev s_l_times_refused : Stmt := top 57
abbrev s_l_bound : Stmt := top 58
abbrev s_l_run_due : Stmt := top 59
abbrev s_l_bad_words : Stmt := top 60
abbrev s_law : Stmt := top 61
/-! ### names and parameters -/
theorem sc_is_integer : FnScope ["thing"] ["thing"] (defScope s_is_integer) := ⟨rfl, rfl, rfl, by decide +kernel, rfl, by decide +kernel, by decide +kernel⟩
theorem sc_is_integer_within : FnScope ["thing", "low", "high"] ["thing", "low", "high"] (defScope s_is_integer_within) := ⟨rfl, rfl, rfl, by decide +kernel, rfl, by decide +kernel, by decide +kernel⟩
theorem sc_is_row : FnScope ["thing"] ["thing"] (defScope s_is_row) := ⟨rfl, rfl, rfl, by decide +kernel, rfl, by decide +kernel, by decide +kernel⟩
theorem sc_BadNumber_init_ : FnScope ["self", "number"] ["self", "number"] (defScope s_BadNumber_init_) := ⟨rfl, rfl, rfl, by decide +kernel, rfl, by decide +kernel, by decide +kernel⟩
theorem sc_Net_init_ : FnScope ["self", "chars", "follow", "exits"] ["self", "chars", "follow", "exits"] (defScope s_Net_init_) := ⟨rfl, rfl, rfl, by decide +kernel, rfl, by decide +kernel, by decide +kernel⟩
theorem sc_places_by_char : FnScope ["chars", "by_string", "place", "string", "by_char", "places", "char"] ["chars"] (defScope s_places_by_char) := ⟨rfl, rfl, rfl, by decide +kernel, rfl, by decide +kernel, by decide +kernel⟩
theorem sc_place_count : FnScope ["least", "most"] ["least", "most"] (defScope s_place_count) := ⟨rfl, rfl, rfl, by decide +kernel, rfl, by decide +kernel, by decide +kernel⟩
theorem sc_run_net : FnScope ["signs", "least", "most", "count", "after_last", "taken", "follow", "exits"] ["signs", "least", "most"] (defScope s_run_net) := ⟨rfl, rfl, rfl, by decide +kernel, rfl, by decide +kernel, by decide +kernel⟩
theorem sc_renumbered : FnScope ["places", "shift"] ["places", "shift"] (defScope s_renumbered) := ⟨rfl, rfl, rfl, by decide +kernel, rfl, by decide +kernel, by decide +kernel⟩
theorem sc_chained : FnScope ["nets", "chars", "follow", "exits", "net", "shift", "first", "at", "ways", "earlier"] ["nets"] (defScope s_chained) := ⟨rfl, rfl, rfl, by decide +kernel, rfl, by decide +kernel, by decide +kernel⟩
theorem sc_side_by_side : FnScope ["nets", "chars", "first", "follow", "exits", "net", "shift", "ways"] ["nets"] (defScope s_side_by_side) := ⟨rfl, rfl, rfl, by decide +kernel, rfl, by decide +kernel, by decide +kernel⟩
theorem sc_Signs_init_ : FnScope ["self", "text", "sign"] ["self", "text"] (defScope s_Signs_init_) := ⟨rfl, rfl, rfl, by decide +kernel, rfl, by decide +kernel, by decide +kernel⟩
theorem sc_is_sign_text : FnScope ["thing", "sign"] ["thing"] (defScope s_is_sign_text) := ⟨rfl, rfl, rfl, by decide +kernel, rfl, by decide +kernel, by decide +kernel⟩
theorem sc_is_signs : FnScope ["thing"] ["thing"] (defScope s_is_signs) := ⟨rfl, rfl, rfl, by decide +kernel, rfl, by decide +kernel, by decide +kernel⟩
theorem sc_signs_of : FnScope ["thing"] ["thing"] (defScope s_signs_of) := ⟨rfl, rfl, rfl, by decide +kernel, rfl, by decide +kernel, by decide +kernel⟩
theorem sc_Kind_init_ : FnScope ["self", "rows", "row"] ["self", "rows"] (defScope s_Kind_init_) := ⟨rfl, rfl, rfl, by decide +kernel, rfl, by decide +kernel, by decide +kernel⟩
theorem sc_Kindrun : FnScope ["signs", "least", "most", "spelling"] ["signs", "least", "most"] (defScope s_Kindrun) := ⟨rfl, rfl, rfl, by decide +kernel, rfl, by decide +kernel, by decide +kernel⟩
theorem sc_Kindwords : FnScope ["texts", "text", "sign"] ["texts"] (defScope s_Kindwords) := ⟨rfl, rfl, rfl, by decide +kernel, rfl, by decide +kernel, by decide +kernel⟩
theorem sc_Kind_add_ : FnScope ["self", "other", "first", "second"] ["self", "other"] (defScope s_Kind_add_) := ⟨rfl, rfl, rfl, by decide +kernel, rfl, by decide +kernel, by decide +kernel⟩
theorem sc_Kind_mul_ : FnScope ["self", "other", "whole", "step"] ["self", "other"] (defScope s_Kind_mul_) := ⟨rfl, rfl, rfl, by decide +kernel, rfl, by decide +kernel, by decide +kernel⟩
theorem sc_Kind_rmul_ : FnScope ["self", "other"] ["self", "other"] (defScope s_Kind_rmul_) := ⟨rfl, rfl, rfl, by decide +kernel, rfl, by decide +kernel, by decide +kernel⟩
theorem sc_Kindalternatives : FnScope ["self"] ["self"] (defScope s_Kindalternatives) := ⟨rfl, rfl, rfl, by decide +kernel, rfl, by decide +kernel, by decide +kernel⟩
theorem sc_are_bounds : FnScope ["least", "most"] ["least", "most"] (defScope s_are_bounds) := ⟨rfl, rfl, rfl, by decide +kernel, rfl, by decide +kernel, by decide +kernel⟩
theorem sc_is_short_text : FnScope ["thing"] ["thing"] (defScope s_is_short_text) := ⟨rfl, rfl, rfl, by decide +kernel, rfl, by decide +kernel, by decide +kernel⟩
theorem sc_without_repeats : FnScope ["rows", "row", "kept"] ["rows"] (defScope s_without_repeats) := ⟨rfl, rfl, rfl, by decide +kernel, rfl, by decide +kernel, by decide +kernel⟩
theorem sc_is_too_large : FnScope ["rows", "row", "signs", "least", "most"] ["rows"] (defScope s_is_too_large) := ⟨rfl, rfl, rfl, by decide +kernel, rfl, by decide +kernel, by decide +kernel⟩
theorem sc_alternative_net : FnScope ["row", "signs", "least", "most"] ["row"] (defScope s_alternative_net) := ⟨rfl, rfl, rfl, by decide +kernel, rfl, by decide +kernel, by decide +kernel⟩
theorem sc_l_bag : FnScope ["_law_script"] ["_law_script"] (defScope s_l_bag) := ⟨rfl, rfl, rfl, by decide +kernel, rfl, by decide +kernel, by decide +kernel⟩
theorem sc_l_draw : FnScope ["_law_bag_here", "_law_limit", "_law_cell", "_law_number", "_law_drawn", "_law_one"] ["_law_bag_here", "_law_limit"] (defScope s_l_draw) := ⟨rfl, rfl, rfl, by decide +kernel, rfl, by decide +kernel, by decide +kernel⟩
theorem sc_l_alphabet : FnScope ["_law_first"] [] (defScope s_l_alphabet) := ⟨rfl, rfl, rfl, by decide +kernel, rfl, by decide +kernel, by decide +kernel⟩
theorem sc_l_letters : FnScope ["_law_bag_here", "_law_many", "_law_rest", "_law_found", "_law_k"] ["_law_bag_here", "_law_many"] (defScope s_l_letters) := ⟨rfl, rfl, rfl, by decide +kernel, rfl, by decide +kernel, by decide +kernel⟩
theorem sc_l_is_integer : FnScope ["_law_thing"] ["_law_thing"] (defScope s_l_is_integer) := ⟨rfl, rfl, rfl, by decide +kernel, rfl, by decide +kernel, by decide +kernel⟩
theorem sc_l_run_told : FnScope ["_law_shown", "_law_low", "_law_top", "e"] ["_law_shown", "_law_low", "_law_top"] (defScope s_l_run_told) := ⟨rfl, rfl, rfl, by decide +kernel, rfl, by decide +kernel, by decide +kernel⟩
theorem sc_l_words_told : FnScope ["_law_given_row", "e"] ["_law_given_row"] (defScope s_l_words_told) := ⟨rfl, rfl, rfl, by decide +kernel, rfl, by decide +kernel, by decide +kernel⟩
theorem sc_l_times_refused : FnScope ["_law_kind", "_law_times", "_law_found", "_law_made", "e"] ["_law_kind", "_law_times"] (defScope s_l_times_refused) := ⟨rfl, rfl, rfl, by decide +kernel, rfl, by decide +kernel, by decide +kernel⟩
theorem sc_l_bound : FnScope ["_law_bag_here", "_law_pick"] ["_law_bag_here"] (defScope s_l_bound) := ⟨rfl, rfl, rfl, by decide +kernel, rfl, by decide +kernel, by decide +kernel⟩
theorem sc_l_run_due : FnScope ["_law_given", "_law_low", "_law_top"] ["_law_given", "_law_low", "_law_top"] (defScope s_l_run_due) := ⟨rfl, rfl, rfl, by decide +kernel, rfl, by decide +kernel, by decide +kernel⟩
theorem sc_l_bad_words : FnScope ["_law_bag_here", "_law_letters_here", "_law_k", "_law_words", "_law_at", "_law_odd"] ["_law_bag_here", "_law_letters_here"] (defScope s_l_bad_words) := ⟨rfl, rfl, rfl, by decide +kernel, rfl, by decide +kernel, by decide +kernel⟩
theorem sc_law : FnScope ["_law_script", "_law_bag_here", "_law_letters_here", "_law_word", "_law_given", "_law_kind", "_law_low", "_law_top", "_law_shown", "_law_thing", "_law_given_row", "_law_times"] ["_law_script"] (defScope s_law) := ⟨rfl, rfl, rfl, by decide +kernel, rfl, by decide +kernel, by decide +kernel⟩
/-! ### what the top leaves -/
def d_is_integer : He.DefD := ⟨("is_integer", none), "is_integer", "is_integer", defArgs s_is_integer, defBody s_is_integer, defScope s_is_integer, [], []⟩
def d_is_integer_within : He.DefD := ⟨("is_integer_within", none), "is_integer_within", "is_integer_within", defArgs s_is_integer_within, defBody s_is_integer_within, defScope s_is_integer_within, [], []⟩
def d_is_row : He.DefD := ⟨("is_row", none), "is_row", "is_row", defArgs s_is_row, defBody s_is_row, defScope s_is_row, [], []⟩
def d_BadNumber_init_ : He.DefD := ⟨("BadNumber", some "__init__"), "__init__", "BadNumber.__init__", defArgs s_BadNumber_init_, defBody s_BadNumber_init_, defScope s_BadNumber_init_, [], []⟩
def d_Net_init_ : He.DefD := ⟨("Net", some "__init__"), "__init__", "Net.__init__", defArgs s_Net_init_, defBody s_Net_init_, defScope s_Net_init_, [], []⟩
def d_places_by_char : He.DefD := ⟨("places_by_char", none), "places_by_char", "places_by_char", defArgs s_places_by_char, defBody s_places_by_char, defScope s_places_by_char, [], []⟩
def d_place_count : He.DefD := ⟨("place_count", none), "place_count", "place_count", defArgs s_place_count, defBody s_place_count, defScope s_place_count, [], []⟩
def d_run_net : He.DefD := ⟨("run_net", none), "run_net", "run_net", defArgs s_run_net, defBody s_run_net, defScope s_run_net, [], []⟩
def d_renumbered : He.DefD := ⟨("renumbered", none), "renumbered", "renumbered", defArgs s_renumbered, defBody s_renumbered, defScope s_renumbered, [], []⟩
def d_chained : He.DefD := ⟨("chained", none), "chained", "chained", defArgs s_chained, defBody s_chained, defScope s_chained, [], []⟩
def d_side_by_side : He.DefD := ⟨("side_by_side", none), "side_by_side", "side_by_side", defArgs s_side_by_side, defBody s_side_by_side, defScope s_side_by_side, [], []⟩
def d_Signs_init_ : He.DefD := ⟨("Signs", some "__init__"), "__init__", "Signs.__init__", defArgs s_Signs_init_, defBody s_Signs_init_, defScope s_Signs_init_, [.str ""], []⟩
def d_is_sign_text : He.DefD := ⟨("is_sign_text", none), "is_sign_text", "is_sign_text", defArgs s_is_sign_text, defBody s_is_sign_text, defScope s_is_sign_text, [], []⟩
def d_is_signs : He.DefD := ⟨("is_signs", none), "is_signs", "is_signs", defArgs s_is_signs, defBody s_is_signs, defScope s_is_signs, [], []⟩
def d_signs_of : He.DefD := ⟨("signs_of", none), "signs_of", "signs_of", defArgs s_signs_of, defBody s_signs_of, defScope s_signs_of, [], []⟩
def d_Kind_init_ : He.DefD := ⟨("Kind", some "__init__"), "__init__", "Kind.__init__", defArgs s_Kind_init_, defBody s_Kind_init_, defScope s_Kind_init_, [], []⟩
def d_Kindrun : He.DefD := ⟨("Kind", some "run"), "run", "Kind.run", defArgs s_Kindrun, defBody s_Kindrun, defScope s_Kindrun, [.int 1, .int 1], []⟩
def d_Kindwords : He.DefD := ⟨("Kind", some "words"), "words", "Kind.words", defArgs s_Kindwords, defBody s_Kindwords, defScope s_Kindwords, [], []⟩
def d_Kind_add_ : He.DefD := ⟨("Kind", some "__add__"), "__add__", "Kind.__add__", defArgs s_Kind_add_, defBody s_Kind_add_, defScope s_Kind_add_, [], []⟩
def d_Kind_mul_ : He.DefD := ⟨("Kind", some "__mul__"), "__mul__", "Kind.__mul__", defArgs s_Kind_mul_, defBody s_Kind_mul_, defScope s_Kind_mul_, [], []⟩
def d_Kind_rmul_ : He.DefD := ⟨("Kind", some "__rmul__"), "__rmul__", "Kind.__rmul__", defArgs s_Kind_rmul_, defBody s_Kind_rmul_, defScope s_Kind_rmul_, [], []⟩
def d_Kindalternatives : He.DefD := ⟨("Kind", some "alternatives"), "alternatives", "Kind.alternatives", defArgs s_Kindalternatives, defBody s_Kindalternatives, defScope s_Kindalternatives, [], []⟩
def d_are_bounds : He.DefD := ⟨("are_bounds", none), "are_bounds", "are_bounds", defArgs s_are_bounds, defBody s_are_bounds, defScope s_are_bounds, [], []⟩
def d_is_short_text : He.DefD := ⟨("is_short_text", none), "is_short_text", "is_short_text", defArgs s_is_short_text, defBody s_is_short_text, defScope s_is_short_text, [], []⟩
def d_without_repeats : He.DefD := ⟨("without_repeats", none), "without_repeats", "without_repeats", defArgs s_without_repeats, defBody s_without_repeats, defScope s_without_repeats, [], []⟩
def d_is_too_large : He.DefD := ⟨("is_too_large", none), "is_too_large", "is_too_large", defArgs s_is_too_large, defBody s_is_too_large, defScope s_is_too_large, [], []⟩
def d_alternative_net : He.DefD := ⟨("alternative_net", none), "alternative_net", "alternative_net", defArgs s_alternative_net, defBody s_alternative_net, defScope s_alternative_net, [], []⟩
def d_l_bag : He.DefD := ⟨("_law_bag", none), "_law_bag", "_law_bag", defArgs s_l_bag, defBody s_l_bag, defScope s_l_bag, [], []⟩
def d_l_draw : He.DefD := ⟨("_law_draw", none), "_law_draw", "_law_draw", defArgs s_l_draw, defBody s_l_draw, defScope s_l_draw, [], []⟩
def d_l_alphabet : He.DefD := ⟨("_law_alphabet", none), "_law_alphabet", "_law_alphabet", defArgs s_l_alphabet, defBody s_l_alphabet, defScope s_l_alphabet, [], []⟩
def d_l_letters : He.DefD := ⟨("_law_letters", none), "_law_letters", "_law_letters", defArgs s_l_letters, defBody s_l_letters, defScope s_l_letters, [], []⟩
def d_l_is_integer : He.DefD := ⟨("_law_is_integer", none), "_law_is_integer", "_law_is_integer", defArgs s_l_is_integer, defBody s_l_is_integer, defScope s_l_is_integer, [], []⟩
def d_l_run_told : He.DefD := ⟨("_law_run_told", none), "_law_run_told", "_law_run_told", defArgs s_l_run_told, defBody s_l_run_told, defScope s_l_run_told, [], []⟩
def d_l_words_told : He.DefD := ⟨("_law_words_told", none), "_law_words_told", "_law_words_told", defArgs s_l_words_told, defBody s_l_words_told, defScope s_l_words_told, [], []⟩
def d_l_times_refused : He.DefD := ⟨("_law_times_refused", none), "_law_times_refused", "_law_times_refused", defArgs s_l_times_refused, defBody s_l_times_refused, defScope s_l_times_refused, [], []⟩
def d_l_bound : He.DefD := ⟨("_law_bound", none), "_law_bound", "_law_bound", defArgs s_l_bound, defBody s_l_bound, defScope s_l_bound, [], []⟩
def d_l_run_due : He.DefD := ⟨("_law_run_due", none), "_law_run_due", "_law_run_due", defArgs s_l_run_due, defBody s_l_run_due, defScope s_l_run_due, [], []⟩
def d_l_bad_words : He.DefD := ⟨("_law_bad_words", none), "_law_bad_words", "_law_bad_words", defArgs s_l_bad_words, defBody s_l_bad_words, defScope s_l_bad_words, [], []⟩
def d_law : He.DefD := ⟨("law", none), "law", "law", defArgs s_law, defBody s_law, defScope s_law, [], []⟩
def fn : List He.DefD := [d_is_integer, d_is_integer_within, d_is_row, d_BadNumber_init_, d_Net_init_, d_places_by_char, d_place_count, d_run_net, d_renumbered, d_chained, d_side_by_side, d_Signs_init_, d_is_sign_text, d_is_signs, d_signs_of, d_Kind_init_, d_Kind_add_, d_Kind_mul_, d_Kind_rmul_, d_Kindalternatives, d_are_bounds, d_is_short_text, d_without_repeats, d_is_too_large, d_alternative_net, d_l_bag, d_l_draw, d_l_alphabet, d_l_letters, d_l_is_integer, d_l_run_told, d_l_words_told, d_l_times_refused, d_l_bound, d_l_run_due, d_l_bad_words, d_law]
def sd : List Tl.StD := [⟨"Kind", "run", d_Kindrun⟩, ⟨"Kind", "words", d_Kindwords⟩]
def fa : List He.Fa := [.glo "is_integer", .glo "is_integer_within", .glo "is_row", .glo "places_by_char", .glo "place_count", .glo "run_net", .glo "renumbered", .glo "chained", .glo "side_by_side", .glo "is_sign_text", .glo "is_signs", .glo "signs_of", .glo "are_bounds", .glo "is_short_text", .glo "without_repeats", .glo "is_too_large", .glo "alternative_net", .glo "_law_bag", .glo "_law_draw", .glo "_law_alphabet", .glo "_law_letters", .glo "_law_is_integer", .glo "_law_run_told", .glo "_law_words_told", .glo "_law_times_refused", .glo "_law_bound", .glo "_law_run_due", .glo "_law_bad_words", .glo "law", .glo "Signs", .cls "Signs", .mkr "Signs", .meth "Signs" "__init__", .noat "Signs" "signs", .glo "Net", .cls "Net", .mkr "Net", .meth "Net" "__init__", .noat "Net" "chars", .noat "Net" "follow", .noat "Net" "exits", .noat "Net" "stands_for", .glo "Kind", .cls "Kind", .mkr "Kind", .meth "Kind" "__init__", .meth "Kind" "__add__", .meth "Kind" "__mul__", .meth "Kind" "__rmul__", .meth "Kind" "alternatives", .noat "Kind" "rows", .noat "Kind" "net", .glo "BadNumber", .meth "BadNumber" "__init__", .noat "BadNumber" "number", .glo "TownError", .glo "BadSigns", .exc "BadSigns", .glo "BadKind", .exc "BadKind", .free "isinstance", .free "int", .free "bool", .free "list", .free "tuple", .free "str", .free "all", .free "any", .free "sum", .free "len", .free "enumerate", .free "range", .free "max", .free "sorted", .int "START" 1, .int "MOST_ALTERNATIVES" 20, .int "MOST_RUNS" 20, .int "MOST_PLACES" 120, .int "MOST_TEXTS" 20, .int "LONGEST_TEXT" 20, .int "HIGHEST_BOUND" 40, .int "MOST_OPERANDS" 9, .str "SIGNS" " !\"#$&'()*+,-./0123456789:;<=>?@ABCDEFGHIJKLMNOPQRSTUVWXYZ[\\]^_`abcdefghijklmnopqrstuvwxyz{|}~", .free "ValueError"]
def ex (K : PySem.W.Frag) : Bool := ((Tl.seesB K (He.ga K "Signs") && Tl.seesB K (He.ga K "Kind")) && (Tl.apartB K (He.ga K "Signs") (He.ga K "Kind") && Tl.mulB K (He.ga K "Kind"))) && Tl.errsB K (He.ga K "BadKind") (He.ga K "BadNumber") (He.ga K "TownError")
abbrev R : PySem.W.OpenRow := PySem.W.OpenLaw.row PySem.Challenge.rw_townlines_k06_kinds_refuse
abbrev hk : PySem.W.Hook := Tl.hookS 6 fa fn sd ex
def ob (s : PySem.W.SharedT) : Tl.AlS := Tl.obsS 6 fa fn sd ex (HandSHeadRun.getT s)
theorem ob_eq (s : PySem.W.SharedT) : ob s = hk.obs s.abs := Tl.obsS_eq (HandSHeadRun.getT_eq s)
abbrev loose : List PySem.Str := (["_wall", "__name__", "is_integer", "is_integer_within", "is_row", "text_order", "TownError", "BadSigns", "BadKind", "BadNumber", "START", "Net", "places_by_char", "place_count", "run_net", "renumbered", "chained", "side_by_side", "together", "places_after", "stand_from", "stand_after", "takes", "SIGNS", "Signs", "is_sign", "is_sign_text", "is_signs", "signs_of", "kept_signs"] : List PySem.Str) ++ (["other_signs", "MOST_ALTERNATIVES", "MOST_RUNS", "MOST_PLACES", "MOST_TEXTS", "LONGEST_TEXT", "HIGHEST_BOUND", "MOST_OPERANDS", "Kind", "are_bounds", "is_short_text", "without_repeats", "is_too_large", "alternative_net", "least_word", "_law_bag", "_law_draw", "_law_alphabet", "_law_letters", "_law_is_integer", "_law_run_told", "_law_words_told", "_law_times_refused", "_law_bound", "_law_run_due", "_law_bad_words"] : List PySem.Str)
set_option maxHeartbeats 0 in
theorem run (w : World) : HandSHeadRun.RunEq R (PySem.W.view R.prog [61]) hk ob 60000 loose w := by
  intro os
  kernel_rfl
end K06

/-! Texts as lists of codes: list(text), text * n, join of signs. -/
namespace Tl
open PySem PySem.Spec PyProof.Rows L2
/-- the text of these codes -/
def tx (l : List Nat) : Str := ⟨l.toArray⟩
def cs (z : Str) : List Nat := z.cps.toList
/-- the text of one sign -/
def sg (n : Nat) : Str := ⟨#[n]⟩
theorem cs_tx (l : List Nat) : cs (tx l) = l := rfl
theorem tx_cs (z : Str) : tx (cs z) = z := by
  obtain ⟨⟨l⟩⟩ := z
  rfl
theorem tx_inj {l k : List Nat} (h : tx l = tx k) : l = k := congrArg cs h
theorem tx_eq {l k : List Nat} : tx l = tx k ↔ l = k := ⟨tx_inj, fun e => by rw [e]⟩
theorem len_tx (l : List Nat) : (tx l).length = l.length := rfl
theorem len_cs (z : Str) : (cs z).length = z.length := Array.length_toList
theorem sg_inj {n m : Nat} (h : sg n = sg m) : n = m := by
  have e : [n] = [m] := congrArg cs h
  injection e
theorem tx_app (l k : List Nat) : tx l ++ tx k = tx (l ++ k) := by
  show (⟨l.toArray ++ k.toArray⟩ : Str) = ⟨(l ++ k).toArray⟩
  rw [List.append_toArray]
theorem glue_sg : ∀ (l : List Nat) (a : Array Nat), (l.map sg).foldl (fun acc p => acc ++ (tx []).cps ++ p.cps) a = a ++ l.toArray
  | [], a => by simp
  | n :: l, a => by
    rw [List.map_cons, List.foldl_cons, glue_sg l]
    simp [tx, sg]
theorem join_sg (l : List Nat) : Txt.join (tx []) (l.map sg) = tx l := by
  cases l with
  | nil => rfl
  | cons n l =>
    show (⟨((List.map sg (n :: l)).drop 1).foldl _ _⟩ : Str) = _
    rw [List.map_cons, List.drop_one, List.tail_cons, glue_sg]
    show (⟨#[n] ++ l.toArray⟩ : Str) = ⟨(n :: l).toArray⟩
    congr 1
    simp
theorem sum_sg (l : List Nat) : ((l.map sg).map (·.length)).sum = l.length := by
  induction l with
  | nil => rfl
  | cons n l ih =>
    rw [List.map_cons, List.map_cons, List.sum_cons, ih, List.length_cons]
    show 1 + l.length = l.length + 1
    omega
theorem fold_rep (x : Array Nat) : ∀ (k : Nat) (a : Array Nat), ((List.replicate k x).foldl (· ++ ·) a).toList = a.toList ++ (List.replicate k x.toList).flatten
  | 0, a => by simp
  | k + 1, a => by
    rw [List.replicate_succ, List.foldl_cons, fold_rep x k, List.replicate_succ, List.flatten_cons, Array.toList_append, List.append_assoc]
theorem mul_cs (z : Str) (k : Nat) : cs (Txt.mul z (k : Int)) = (List.replicate k (cs z)).flatten := by
  unfold Txt.mul
  by_cases h0 : (k : Int) < 1
  · rw [if_pos h0]
    have e : k = 0 := by omega
    subst e
    rfl
  · rw [if_neg h0]
    by_cases h1 : ((k : Int) == 1 || z.length == 0) = true
    · rw [if_pos h1]
      rcases Bool.or_eq_true_iff.mp h1 with e | e
      · have e : k = 1 := by
          have := beq_iff_eq.mp e
          omega
        subst e
        show cs z = (List.replicate 1 (cs z)).flatten
        simp [List.replicate]
      · have e1 : cs z = [] := by
          apply List.eq_nil_of_length_eq_zero
          rw [len_cs]
          exact beq_iff_eq.mp e
        rw [e1]
        induction k with
        | zero => rfl
        | succ k ih => simp
    · rw [if_neg h1]
      show ((List.replicate (k : Int).toNat z.cps).foldl (· ++ ·) #[]).toList = _
      rw [fold_rep, Int.toNat_natCast]
      rfl
section
variable {X : Cx}
/-- list(z), z a text -/
theorem call_listTx (hc : X.calm = true) : CallR X (.type "list") (fun vs H Q => ∃ l : List Nat, vs = [.str (tx l)] ∧ l.length ≤ sizeLine ∧ ∀ p, H p = none → Q (.ref p) (upd H p (.lst (l.map fun n => V.str (sg n))))) := by
  intro pins s σ H vs us Q I r h
  obtain ⟨l, rfl, hz, q⟩ := h
  obtain ⟨u, rfl, rx⟩ := vals1 r
  obtain ⟨t, rfl⟩ := rx
  refine call_list_str (I.ok.hd hc) (tx l) t (hn := hz) fun hq tk acc c hk hS hacc => ?_
  have hv : Vals (l.map fun n => V.str (sg n)) acc.toList := by
    have key : ∀ (k : List Nat) (us : List Value), us.length = k.length → (∀ (j : Nat) (v : Value), us[j]? = some v → ∃ (n : Nat) (u : Tok), k[j]? = some n ∧ v = Value.str (sg n) u) → Vals (k.map fun n => V.str (sg n)) us := by
      intro k
      induction k with
      | nil =>
        intro us hl _
        cases us with
        | nil => exact .nil
        | cons _ _ => cases hl
      | cons n k ih =>
        intro us hl h
        cases us with
        | nil => cases hl
        | cons v us =>
          obtain ⟨n', u, e1, e2⟩ := h 0 v rfl
          have e : n = n' := Option.some.inj e1
          subst e
          exact .cons ⟨u, e2⟩ (ih us (Nat.succ.inj hl) fun j v e => h (j + 1) v e)
    refine key l acc.toList (by rw [Array.length_toList]; exact hacc.1) fun j v e => ?_
    obtain ⟨n, u, e1, e2⟩ := hacc.2 j v (by rw [← Array.getElem?_toList]; exact e)
    exact ⟨n, u, by rw [← e1]; simp [tx], e2⟩
  exact ⟨.ref s.heap.objs.size, _, I.laid (t' := tk) hk (Nat.le_refl _) (show ObjOk X.prog X.w _ hq _ (.lst (l.map fun n => V.str (sg n))) from ⟨by rw [List.length_map]; exact hz, acc.toList, c, hv, by rw [Array.toArray_toList]; exact hS⟩), rfl, q _ (I.hok.fresh (Nat.le_refl _))⟩
/-- z * k -/
theorem op_mulTx : OpR X (binaryOp .Mult) (fun x y H Q => ∃ (l : List Nat) (k : Nat), x = .str (tx l) ∧ y = .int k ∧ k ≤ 1000000 ∧ l.length * k ≤ 16777216 ∧ Q (.str (tx (List.replicate k l).flatten)) H) := by
  intro pins s σ H x y v u Q I rx ry h
  obtain ⟨l, k, rfl, rfl, hk, hl, q⟩ := h
  obtain ⟨t, rfl⟩ := rx
  obtain ⟨t', rfl⟩ := ry
  have e : Txt.mul (tx l) (k : Int) = tx (List.replicate k l).flatten := by
    rw [← tx_cs (Txt.mul (tx l) (k : Int)), mul_cs, cs_tx]
  refine PySem.SB.mul (x := tx l) (n := (k : Int)) ⟨?_, fun h1 _ => ?_, fun h1 _ => ?_⟩ fun t2 tk => ?_
  · rw [decide_eq_false (by omega), decide_eq_false (by omega)]
    rfl
  · rw [len_tx]
    have h2 : 1 ≤ (k : Int) := by omega
    have h3 : (l.length : Int) ≤ 16777216 := by
      have : l.length ≤ l.length * k := Nat.le_mul_of_pos_right _ (by omega)
      omega
    have h4 : (16777216 : Int) ≤ (2 ^ 63 - 1) / (k : Int) := by
      apply Int.le_ediv_of_mul_le (by omega)
      omega
    omega
  · unfold Builtin.Str.tooLong
    rw [len_tx, Int.toNat_natCast, sizeLine_eq]
    exact decide_eq_false (by omega)
  · rw [e]
    exact ⟨.str (tx (List.replicate k l).flatten), H, I.tok tk, ⟨t2, rfl⟩, q⟩
end
end Tl

namespace K06
open PySem PySem.Spec PyProof.Rows L2 Tl
/-- a def of no defaults as the top leaves it -/
abbrev FnP (K : PySem.W.Frag) (x qual : Str) (st : Stmt) (f : Addr) (fd : FuncData) : Prop := FunD K x qual (defArgs st) (defBody st) (defScope st) [] [] f fd
/-! ### the bag that is drawn from -/
def bagL (c : Addr) (n m k : Int) : List V := [.ref c, .int n, .int m, .int k]
structure Bag (H : Hp) (b c : Addr) : Prop where
  top : ∃ n m k : Int, H b = some (.lst (bagL c n m k))
  cells : ∃ ns : List Int, H c = some (.lst (ns.map V.int))
theorem Bag.ne {H : Hp} {b c : Addr} (B : Bag H b c) : b ≠ c := fun e => by
  obtain ⟨n, m, k, h1⟩ := B.top
  obtain ⟨ns, h2⟩ := B.cells
  rw [e, h2] at h1
  have h3 := HO.lst.inj (Option.some.inj h1)
  cases ns with
  | nil => cases h3
  | cons x r =>
    injection h3 with h4 _
    cases h4
/-- all but the bag stands as it stood -/
def Kept (b c : Addr) (H H' : Hp) : Prop := ∀ x o, H x = some o → x ≠ b → x ≠ c → H' x = some o
theorem Kept.refl {b c : Addr} {H : Hp} : Kept b c H H := fun _ _ e _ _ => e
theorem Kept.trans {b c : Addr} {H1 H2 H3 : Hp} (h : Kept b c H1 H2) (k : Kept b c H2 H3) : Kept b c H1 H3 := fun x o e nb nc => k x o (h x o e nb nc) nb nc
theorem Kept.updB {b c : Addr} {H H' : Hp} {o : HO} (h : Kept b c H H') : Kept b c H (upd H' b o) := fun x u e nb nc => by
  rw [upd_ne nb]
  exact h x u e nb nc
theorem Kept.updC {b c : Addr} {H H' : Hp} {o : HO} (h : Kept b c H H') : Kept b c H (upd H' c o) := fun x u e nb nc => by
  rw [upd_ne nc]
  exact h x u e nb nc
theorem Kept.new {b c : Addr} {H H' : Hp} {o : HO} {p : Addr} (h : Kept b c H H') (hp : H p = none) : Kept b c H (upd H' p o) := fun x u e nb nc => by
  rw [upd_ne (ne_of_none e hp)]
  exact h x u e nb nc
theorem Bag.updB {H : Hp} {b c : Addr} {n m k : Int} (B : Bag H b c) : Bag (upd H b (.lst (bagL c n m k))) b c := ⟨⟨n, m, k, upd_same⟩, by
  obtain ⟨ns, h⟩ := B.cells
  exact ⟨ns, by rw [upd_ne (Ne.symm B.ne)]; exact h⟩⟩
theorem Bag.new {H : Hp} {b c p : Addr} {o : HO} (B : Bag H b c) (hp : H p = none) : Bag (upd H p o) b c := by
  obtain ⟨n, m, k, h1⟩ := B.top
  obtain ⟨ns, h2⟩ := B.cells
  exact ⟨⟨n, m, k, by rw [upd_ne (ne_of_none h1 hp)]; exact h1⟩, ⟨ns, by rw [upd_ne (ne_of_none h2 hp)]; exact h2⟩⟩
theorem seq0 (n : Nat) : seqIndex? 0 (n + 1) = some 0 := (ixN_seq (n := n + 1) (i := 0) (j := 0) (by unfold ixN; rw [if_pos (by decide), if_pos (by omega)]; rfl)).1
section
variable {P : Program} {w : World} {K : PySem.W.Frag} {mg : Str → Option Value} {base : Heap}
def spDraw : Sp := fun vs H Q _ => ∃ (b c : Addr) (lim : Int), vs = [.ref b, .int lim] ∧ Bag H b c ∧ 0 < lim ∧ lim.natAbs < 2 ^ 200 ∧ ∀ (r : Int) (H' : Hp), 0 ≤ r → r < lim → Bag H' b c → Kept b c H H' → Q (.int r) H'
theorem ok_draw {f : Addr} {fd : FuncData} (F : FnP K "_law_draw" "_law_draw" s_l_draw f fd) (ml : mg "len" = none) (mi : mg "int" = none) : FnOk P w K mg base CX0 1 f fd ["_law_bag_here", "_law_limit"] spDraw := by
  have nd := sc_l_draw.nd
  refine F.ok sc_l_draw (fun vs H Q E h => ?_) (fun cdv A outer s H vs Q E hr h => ?_)
  · obtain ⟨b, c, lim, rfl, _⟩ := h
    rfl
  · obtain ⟨b, c, lim, rfl, B, hl, hw, q⟩ := h
    refine ⟨_, PSs.nox (C8.pss_cut (ps_if (PW.pt (pw_and (pt_cmpR op_eq (pe_ix ix_list (pv 0) pe_int (fun _ _ => rfl)) pe_int (nomark _)) (pw_and1 (pt_cmpR op_gt (pe_callB call_len_seq (by rfl) ml PySem.boot_len (pa_cons (pe_ix ix_list (pv 0) pe_int (fun _ _ => rfl)) pa_nil)) pe_int (nomark _)))))
        (pss_cons (ps_set (i := 2) nd rfl (.inl rfl) (pe_bm PySem.F.plainAttrs_list PySem.F.slot_list_pop PySem.F.type_list_pop mt_popAt (pe_ix ix_list (pv 0) pe_int (fun _ _ => rfl)) (pa_cons pe_int pa_nil)))
        (pss_cons (ps_set (i := 3) nd rfl (.inl rfl) (pe_op op_mul pe_int (pv 2)))
        (C8.pss_cut (ps_if (pt_cmpR op_lt (pv 2) pe_int (nomark _)) (pss_one (ps_set (i := 3) nd rfl (.inl rfl) (pe_op op_sub (pe_op op_mul (pe_un un_neg pe_int) (pv 2)) pe_int))) pss_nil)
        (C8.pss_cut (ps_if (pt_cmpR op_ge (pv 3) (pe_op op_pow pe_int pe_int) (nomark _)) (pss_one (ps_asg (pv 3) (pg_sub (pv 0) pe_int set_list))) pss_nil)
        (pss_one (ps_asg (pe_op op_mod (pe_callTy call_int1 (by rfl) mi (by decide +kernel) (pa_cons (pe_op op_add (pe_op op_add (pe_op op_mul (pe_ix ix_list (pv 0) pe_int (fun _ _ => rfl)) pe_int) (pv 3)) pe_int) pa_nil)) pe_int) (pg_sub (pv 0) pe_int set_list)))))))
        pss_nil)
      (pss_cons (ps_if (pt_cmpR op_gt (pe_ix ix_list (pv 0) pe_int (fun _ _ => rfl)) pe_int (nomark _))
        (pss_cons (ps_set (i := 4) nd rfl (.inl rfl) (pe_op op_mod (pe_callTy call_int1 (by rfl) mi (by decide +kernel) (pa_cons (pe_ix ix_list (pv 0) pe_int (fun _ _ => rfl)) pa_nil)) (pv 1)))
        (pss_cons (ps_asg (pe_op op_fdivW (pe_ix ix_list (pv 0) pe_int (fun _ _ => rfl)) (pv 1)) (pg_sub (pv 0) pe_int set_list))
        (pss_one (ps_ret (pv 4))))) pss_nil)
      (pss_cons (ps_asg (pe_op op_add (pe_ix ix_list (pv 0) pe_int (fun _ _ => rfl)) pe_int) (pg_sub (pv 0) pe_int set_list))
      (pss_cons (ps_set (i := 5) nd rfl (.inl rfl) (pe_op op_mod (pe_callTy call_int1 (by rfl) mi (by decide +kernel) (pa_cons (pe_op op_mul (pe_op op_add (pe_op op_add (pe_ix ix_list (pv 0) pe_int (fun _ _ => rfl)) (pe_op op_mul pe_int (pe_ix ix_list (pv 0) pe_int (fun _ _ => rfl)))) pe_int) pe_int) pa_nil)) pe_int))
      (pss_cons (ps_set (i := 5) nd rfl (.inl rfl) (pe_op op_mod (pe_callTy call_int1 (by rfl) mi (by decide +kernel) (pa_cons (pe_op op_mul (pv 5) (pe_op op_add (pe_op op_fdiv (pv 5) pe_int) pe_int)) pa_nil)) pe_int))
      (pss_cons (ps_set (i := 5) nd rfl (.inl rfl) (pe_op op_mod (pe_callTy call_int1 (by rfl) mi (by decide +kernel) (pa_cons (pe_op op_mul (pv 5) (pe_op op_add (pe_op op_fdiv (pv 5) pe_int) pe_int)) pa_nil)) pe_int))
      (pss_one (ps_ret (pe_op op_mod (pe_callTy call_int1 (by rfl) mi (by decide +kernel) (pa_cons (pe_op op_fdiv (pv 5) pe_int) pa_nil)) (pv 1)))))))))), ?_⟩
    have at0 : ∀ (n m k : Int), atI (bagL c n m k) 0 = some (.ref c) := fun _ _ _ => rfl
    have at1 : ∀ (n m k : Int), atI (bagL c n m k) 1 = some (.int n) := fun _ _ _ => rfl
    have at2 : ∀ (n m k : Int), atI (bagL c n m k) 2 = some (.int m) := fun _ _ _ => rfl
    have at3 : ∀ (n m k : Int), atI (bagL c n m k) 3 = some (.int k) := fun _ _ _ => rfl
    refine ⟨fun σ' H' => ∃ x2 x3 x4 x5, σ' = [some (.ref b), some (.int lim), x2, x3, x4, x5] ∧ Bag H' b c ∧ Kept b c H H', ?_, ?_⟩
    · obtain ⟨n, m, k, hb⟩ := B.top
      obtain ⟨ns, hc⟩ := B.cells
      have nbc := B.ne
      have skip : ∃ x2 x3 x4 x5 : Option V, start ["_law_bag_here", "_law_limit", "_law_cell", "_law_number", "_law_drawn", "_law_one"] [V.ref b, V.int lim] = [some (.ref b), some (.int lim), x2, x3, x4, x5] ∧ Bag H b c ∧ Kept b c H H := ⟨none, none, none, none, rfl, B, Kept.refl⟩
      refine ⟨.ref b, rfl, b, _, 1, _, rfl, rfl, SqL.of hb, at1 n m k, rfl, _, rfl, ite2 (fun e1 => ?_) fun e1 => iteF skip⟩
      refine ⟨.ref b, rfl, b, _, 0, _, rfl, rfl, SqL.of hb, at0 n m k, c, _, rfl, .inl (SqL.of hc), _, _, rfl, rfl, _, rfl, ite2 (fun e2 => ?_) fun e2 => skip⟩
      obtain ⟨x, r, rfl⟩ : ∃ x r, ns = x :: r := by
        cases ns with
        | nil => exact absurd (of_decide_eq_true e2) (by simp)
        | cons x r => exact ⟨x, r, rfl⟩
      -- the first cell is taken
      refine ⟨.ref b, rfl, b, _, 0, _, rfl, rfl, SqL.of hb, at0 n m k, .inl ⟨rfl, _, SqL.of hc⟩, c, _, 0, 0, .int x, rfl, rfl, hc, by decide, by decide, seq0 _, rfl, ?_⟩
      have el : ((x :: r).map V.int).eraseIdx 0 = r.map V.int := rfl
      rw [el]
      generalize hH1 : upd H c (.lst (r.map V.int)) = H1
      have B1 : Bag H1 b c := by
        rw [← hH1]
        exact ⟨⟨n, m, k, by rw [upd_ne nbc]; exact hb⟩, ⟨r, upd_same⟩⟩
      have K1 : Kept b c H H1 := by
        rw [← hH1]
        exact Kept.refl.updC
      -- number = 2 * cell
      refine ⟨_, rfl, _, _, rfl, rfl, .inl (by decide), ?_⟩
      refine ⟨fun σ' H' => ∃ y : Int, σ' = [some (.ref b), some (.int lim), some (.int x), some (.int y), none, none] ∧ H' = H1, ?_, ?_⟩
      · refine ⟨_, rfl, _, _, rfl, rfl, _, rfl, ite2 (fun e3 => ?_) fun e3 => ⟨_, rfl, rfl⟩⟩
        refine ⟨_, rfl, _, rfl, _, _, rfl, rfl, .inl (by decide), _, _, rfl, rfl, ?_⟩
        exact ⟨_, rfl, rfl⟩
      · rintro σ' H' ⟨y, rfl, rfl⟩
        obtain ⟨n1, m1, k1, hb1⟩ := B1.top
        refine ⟨fun σ' H' => σ' = [some (.ref b), some (.int lim), some (.int x), some (.int y), none, none] ∧ Bag H' b c ∧ Kept b c H H', ?_, ?_⟩
        · refine ⟨_, rfl, _, _, rfl, rfl, ⟨by decide, by decide, by decide⟩, _, _, rfl, rfl, _, rfl, ite2 (fun e4 => ?_) fun e4 => ⟨rfl, B1, K1⟩⟩
          exact ⟨_, rfl, .ref b, rfl, b, _, 1, 1, rfl, rfl, hb1, rfl, rfl, B1.updB (n := y) (m := m1) (k := k1), K1.updB⟩
        · rintro σ' H' ⟨rfl, B2, K2⟩
          obtain ⟨n2, m2, k2, hb2⟩ := B2.top
          refine ⟨.ref b, rfl, b, _, 2, _, rfl, rfl, SqL.of hb2, at2 n2 m2 k2, _, _, rfl, rfl, .inr (by decide), _, rfl, _, _, rfl, rfl, _, _, rfl, rfl, .inl ⟨_, rfl, ?_⟩⟩
          refine ⟨_, _, rfl, rfl, (by show (0 : Int) < 2147483647; decide), .ref b, rfl, b, _, 2, 2, rfl, rfl, hb2, rfl, ?_⟩
          exact ⟨_, _, _, _, rfl, B2.updB, K2.updB⟩
    · rintro σ' H1 ⟨x2, x3, x4, x5, rfl, B1, K1⟩
      obtain ⟨n, m, k, hb⟩ := B1.top
      refine ⟨.ref b, rfl, b, _, 1, _, rfl, rfl, SqL.of hb, at1 n m k, _, _, rfl, rfl, _, rfl, ite2 (fun e1 => ?_) fun e1 => ?_⟩
      · refine ⟨.ref b, rfl, b, _, 1, _, rfl, rfl, SqL.of hb, at1 n m k, .inl ⟨_, rfl, ?_⟩⟩
        refine ⟨_, rfl, _, _, rfl, rfl, hl, ?_⟩
        refine ⟨.ref b, rfl, b, _, 1, _, rfl, rfl, SqL.of hb, at1 n m k, _, rfl, _, _, rfl, rfl, wide_div hl hw (by decide) (by decide), ?_⟩
        refine ⟨.ref b, rfl, b, _, 1, 1, rfl, rfl, hb, rfl, _, rfl, ?_⟩
        exact q _ _ (Int.emod_nonneg _ (by omega)) (Int.emod_lt_of_pos _ hl) B1.updB K1.updB
      · refine ⟨.ref b, rfl, b, _, 3, _, rfl, rfl, SqL.of hb, at3 n m k, _, _, rfl, rfl, .ref b, rfl, b, _, 3, 3, rfl, rfl, hb, rfl, ?_⟩
        have B2 : Bag (upd H1 b (.lst (bagL c n m (k + 1)))) b c := B1.updB
        have K2 : Kept b c H (upd H1 b (.lst (bagL c n m (k + 1)))) := K1.updB
        have hb2 : (upd H1 b (.lst (bagL c n m (k + 1)))) b = some (.lst (bagL c n m (k + 1))) := upd_same
        show _
        refine ⟨.ref b, rfl, b, _, 2, _, rfl, rfl, SqL.of hb2, at2 n m (k + 1), .ref b, rfl, b, _, 3, _, rfl, rfl, SqL.of hb2, at3 n m (k + 1), _, _, rfl, rfl, .inl (by decide), _, _, rfl, rfl, _, _, rfl, rfl, _, _, rfl, rfl, .inr (by decide), .inl ⟨_, rfl, ?_⟩⟩
        refine ⟨_, _, rfl, rfl, (by show (0 : Int) < 2147483647; decide), ?_⟩
        have z1 := Int.emod_nonneg ((m + 7919 * (k + 1) + 1) * 48271) (show (2147483647 : Int) ≠ 0 by decide)
        have z2 := Int.emod_lt_of_pos ((m + 7919 * (k + 1) + 1) * 48271) (show (0 : Int) < 2147483647 by decide)
        generalize ((m + 7919 * (k + 1) + 1) * 48271) % 2147483647 = o1 at z1 z2 ⊢
        refine ⟨_, rfl, _, rfl, _, _, rfl, rfl, ⟨by decide, by decide⟩, _, _, rfl, rfl, _, _, rfl, rfl, .inl ⟨by omega, by omega⟩, .inl ⟨_, rfl, ?_⟩⟩
        refine ⟨_, _, rfl, rfl, (by show (0 : Int) < 2147483647; decide), ?_⟩
        have y1 := Int.emod_nonneg (o1 * (o1 / 1009 + 69621)) (show (2147483647 : Int) ≠ 0 by decide)
        have y2 := Int.emod_lt_of_pos (o1 * (o1 / 1009 + 69621)) (show (0 : Int) < 2147483647 by decide)
        generalize (o1 * (o1 / 1009 + 69621)) % 2147483647 = o2 at y1 y2 ⊢
        refine ⟨_, rfl, _, rfl, _, _, rfl, rfl, ⟨by decide, by decide⟩, _, _, rfl, rfl, _, _, rfl, rfl, .inl ⟨by omega, by omega⟩, .inl ⟨_, rfl, ?_⟩⟩
        refine ⟨_, _, rfl, rfl, (by show (0 : Int) < 2147483399; decide), ?_⟩
        refine ⟨_, rfl, _, _, rfl, rfl, ⟨by decide, by decide⟩, .inl ⟨_, rfl, ?_⟩⟩
        refine ⟨_, rfl, _, _, rfl, rfl, hl, ?_⟩
        exact q _ _ (Int.emod_nonneg _ (by omega)) (Int.emod_lt_of_pos _ hl) B2 K2
end
end K06

/-! Comprehensions over the signs of a text. -/
namespace Tl
open PySem PySem.Spec PyProof.Rows L2
theorem upd_over {H : Hp} {p : Addr} {o u : HO} : upd (upd H p o) p u = upd H p u := funext fun x => by
  by_cases e : x = p
  · subst e
    rw [upd_same, upd_same]
  · rw [upd_ne e, upd_ne e, upd_ne e]
/-- [f c for c in text if p c]: i the slot of c, f and p told by the sign's code, the heap as it was -/
theorem lc_tx {te te' : TE} {tt : TT} {σ : L2.St} {H : Hp} {Q : VK} {l : List Nat} {p : Nat → Bool} {f : Nat → V} {i : Nat} (hl : l.length ≤ 1000000)
    (hte : ∀ Q' : VK, Q' (.str (tx l)) H → te σ H Q')
    (hw : ∀ x : V, wipe ((wipe σ [i]).set i (some x)) [i] = wipe σ [i])
    (ht : ∀ (n : Nat) (H2 : Hp) (Qb : Bool → Hp → Prop), n ∈ l → Qb (p n) H2 → tt ((wipe σ [i]).set i (some (.str (sg n)))) H2 Qb)
    (he : ∀ (n : Nat) (H2 : Hp) (Q' : VK), n ∈ l → Q' (f n) H2 → te' ((wipe σ [i]).set i (some (.str (sg n)))) H2 Q')
    (hq : ∀ D, H D = none → Q (.ref D) (upd H D (.lst ((l.filter p).map f)))) : tLc (iStr te) (gName i) tt te' [i] σ H Q := by
  refine hte _ ⟨tx l, rfl, fun D hD => ?_⟩
  refine lc_it (walk_str (z := tx l)) (fun j H' => H' = upd H D (.lst (((l.take j).filter p).map f))) rfl (fun _ _ _ _ => trivial) ?_ ?_
  · rintro j x H1 H' hj e1 ⟨e2, c, hc, rfl⟩
    subst e2
    subst e1
    have hc' : l[j]? = some c := by
      have e : (tx l).cps[j]? = l[j]? := by simp [tx]
      rw [← e]
      exact hc
    have hm : c ∈ l := List.mem_of_getElem? hc'
    have hlen : ((l.take j).filter p).length ≤ 1000000 := Nat.le_trans (List.length_filter_le _ _) (Nat.le_trans (by rw [List.length_take]; exact Nat.min_le_right _ _) hl)
    refine ⟨hw _, ht c _ _ hm ?_⟩
    cases hp : p c with
    | true =>
      refine iteT (he c _ _ hm ⟨_, upd_same, ?_, ?_⟩)
      · rw [List.length_map]
        exact Nat.lt_of_le_of_lt hlen (by rw [sizeLine_eq]; decide)
      · show upd (upd H D _) D _ = _
        rw [upd_over, List.take_add_one, hc', List.filter_append, List.map_append]
        simp [hp]
    | false =>
      refine iteF ?_
      show upd H D _ = upd H D _
      rw [List.take_add_one, hc', List.filter_append]
      simp [hp]
  · rintro H' rfl
    have e : l.take (tx l).cps.size = l := List.take_of_length_le (by simp [tx])
    rw [e]
    exact hq D hD
theorem cb_one {r : List V → Hp → VK → Prop} {ta : TE} {σ : L2.St} {H : Hp} {Q : VK} (h : ta σ H fun x H1 => r [x] H1 Q) : tCB r (tCons ta tNil) σ H Q := h
/-- what sep.join(xs) asks -/
abbrev rJoin (K : PySem.W.Frag) : V → List V → Hp → VK → Prop := fun x xs H Q => ∃ a p, ∃ ys : List Str, x = .str a ∧ xs = [.ref p] ∧ (SqL K H p (ys.map V.str) ∨ SqT K H p (ys.map V.str)) ∧ (ys.map (·.length)).sum + ys.length * a.length ≤ 16777216 ∧ Q (.str (Txt.join a ys)) H
theorem strs_sg (l : List Nat) : (l.map fun n => V.str (sg n)) = (l.map sg).map V.str := by
  rw [List.map_map]
  rfl
theorem join_rd {K : PySem.W.Frag} {p : Addr} {l : List Nat} {H : Hp} {Q : VK} (h : H p = some (.lst (l.map fun n => V.str (sg n)))) (hl : l.length ≤ 1000000) (q : Q (.str (tx l)) H) : rJoin K (.str (tx [])) [.ref p] H Q := by
  refine ⟨tx [], p, l.map sg, rfl, rfl, .inl (SqL.of (by rw [← strs_sg]; exact h)), ?_, ?_⟩
  · rw [sum_sg, len_tx, List.length_map]
    show l.length + l.length * 0 ≤ 16777216
    omega
  · rw [join_sg]
    exact q
/-- ''.join([c for c in text if p c]) -/
theorem join_tx {K : PySem.W.Frag} {z : Str} {te : TE} {tt : TT} {σ : L2.St} {H : Hp} {Q : VK} {l : List Nat} {p : Nat → Bool} {i : Nat} (hz : z = tx []) (hl : l.length ≤ 1000000)
    (hte : ∀ Q' : VK, Q' (.str (tx l)) H → te σ H Q')
    (hw : ∀ x : V, wipe ((wipe σ [i]).set i (some x)) [i] = wipe σ [i])
    (hv : ∀ x : V, ((wipe σ [i]).set i (some x))[i]? = some (some x))
    (ht : ∀ (n : Nat) (H2 : Hp) (Qb : Bool → Hp → Prop), n ∈ l → Qb (p n) H2 → tt ((wipe σ [i]).set i (some (.str (sg n)))) H2 Qb)
    (hq : ∀ H', Same H H' → Q (.str (tx (l.filter p))) H') : tM1 (rJoin K) (tC (.str z)) (tLc (iStr te) (gName i) tt (tVar i) [i]) σ H Q := by
  subst hz
  refine ⟨⟨_, rfl⟩, ?_⟩
  refine lc_tx (p := p) (f := fun n => .str (sg n)) hl hte hw ht (fun n H2 Q' _ q => ⟨_, hv _, q⟩) fun D hD => ?_
  refine join_rd upd_same (Nat.le_trans (List.length_filter_le _ _) hl) (hq _ fun b o e => ?_)
  rw [upd_ne (ne_of_none e hD)]
  exact e
/-- the same, the text made by a call that leaves all as it stood -/
theorem join_txG {K : PySem.W.Frag} {z : Str} {te : TE} {tt : TT} {σ : L2.St} {H : Hp} {Q : VK} {l : List Nat} {p : Nat → Bool} {i : Nat} (hz : z = tx []) (hl : l.length ≤ 1000000)
    (hte : ∀ Q' : VK, (∀ H1, Same H H1 → Q' (.str (tx l)) H1) → te σ H Q')
    (hw : ∀ x : V, wipe ((wipe σ [i]).set i (some x)) [i] = wipe σ [i])
    (hv : ∀ x : V, ((wipe σ [i]).set i (some x))[i]? = some (some x))
    (ht : ∀ (n : Nat) (H2 : Hp) (Qb : Bool → Hp → Prop), n ∈ l → Qb (p n) H2 → tt ((wipe σ [i]).set i (some (.str (sg n)))) H2 Qb)
    (hq : ∀ H', Same H H' → Q (.str (tx (l.filter p))) H') : tM1 (rJoin K) (tC (.str z)) (tLc (iStr te) (gName i) tt (tVar i) [i]) σ H Q := by
  subst hz
  refine ⟨⟨_, rfl⟩, hte _ fun H1 s1 => ?_⟩
  refine lc_tx (Q := fun y H2 => rJoin K (V.str (tx [])) [y] H2 Q) (te := tC (.str (tx l))) (te' := tVar i) (H := H1) (p := p) (f := fun n => .str (sg n)) hl (fun _ q => q) hw ht (fun n H2 Q' _ q => ⟨_, hv _, q⟩) fun D hD => ?_
  refine join_rd upd_same (Nat.le_trans (List.length_filter_le _ _) hl) (hq _ fun b o e => ?_)
  rw [upd_ne (ne_of_none (s1 _ _ e) hD)]
  exact s1 _ _ e
end Tl

namespace K06
open PySem PySem.Spec PyProof.Rows L2 Tl
theorem cut_ints (ns : List Int) (lo hi : Option Int) : ∃ ms : List Int, cutV (ns.map V.int) lo hi = ms.map V.int := by
  refine ⟨(ns.drop (HT.sIx (ns.map V.int).length 0 lo)).take (HT.sIx (ns.map V.int).length (ns.map V.int).length hi - HT.sIx (ns.map V.int).length 0 lo), ?_⟩
  unfold cutV
  rw [← List.map_drop, ← List.map_take]
theorem same_new {H : Hp} {p : Addr} {o : HO} (h : H p = none) : Same H (upd H p o) := fun b x e => by
  rw [upd_ne (ne_of_none e h)]
  exact e
theorem erase_map {α β : Type} (f : α → β) : ∀ (l : List α) (i : Nat), (l.map f).eraseIdx i = (l.eraseIdx i).map f
  | [], _ => rfl
  | _ :: _, 0 => rfl
  | x :: l, i + 1 => congrArg (f x :: ·) (erase_map f l i)
theorem erase_cons {α : Type} : ∀ (l : List α) (i : Nat) (h : i < l.length), List.Perm (l[i] :: l.eraseIdx i) l
  | [], i, h => absurd h (Nat.not_lt_zero i)
  | _ :: _, 0, _ => List.Perm.refl _
  | x :: l, i + 1, h => (List.Perm.swap x _ _).trans ((erase_cons l i (Nat.lt_of_succ_lt_succ h)).cons x)
/-- all the signs, by their codes -/
def alpha : List Nat := (List.range 95).filterMap fun i => if i = 5 then none else some (i + 32)
theorem alpha_len : alpha.length = 94 := by decide +kernel
theorem alpha_nodup : alpha.Nodup := by decide +kernel
theorem line_small {n : Nat} (h : n ≤ 16777216) : n ≤ sizeLine := by
  rw [sizeLine_eq]
  exact h
section
variable {P : Program} {w : World} {K : PySem.W.Frag} {mg : Str → Option Value} {base : Heap}
def spBag (K : PySem.W.Frag) : Sp := fun vs H Q _ => ∃ (a : Addr) (ns : List Int), vs = [.ref a] ∧ SqL K H a (ns.map V.int) ∧ ns.length ≤ 63 ∧ ∀ (b c : Addr) (H' : Hp), H b = none → H c = none → Bag H' b c → Same H H' → Q (.ref b) H'
theorem ok_bag {f : Addr} {fd : FuncData} (F : FnP K "_law_bag" "_law_bag" s_l_bag f fd) (ml : mg "list" = none) : FnOk P w K mg base CX0 1 f fd ["_law_script"] (spBag K) := by
  refine F.ok sc_l_bag (fun vs H Q E h => ?_) (fun cdv A outer s H vs Q E hr h => ?_)
  · obtain ⟨a, ns, rfl, _⟩ := h
    rfl
  · obtain ⟨a, ns, rfl, hS, hlen, q⟩ := h
    refine ⟨_, PSs.nox (pss_one (ps_ret (pe_lst (pa_cons (pe_callTy call_list_of (by rfl) ml (by decide +kernel) (pa_cons (pe_slice sl_list (pv 0) po_none (po_some pe_int)) pa_nil)) (pa_cons pe_int (pa_cons pe_int (pa_cons pe_int pa_nil))))))), ?_⟩
    refine ⟨.ref a, rfl, 63, rfl, a, _, rfl, hS, fun p hp => ?_⟩
    obtain ⟨ms, em⟩ := cut_ints ns none (some 63)
    rw [em]
    refine ⟨p, _, rfl, .inl (SqL.of upd_same), fun c hc => ?_⟩
    refine ⟨by show 4 ≤ sizeLine; exact line_small (by decide), fun b hb => ?_⟩
    have s1 : Same H (upd H p (.lst (ms.map V.int))) := same_new hp
    have s2 := s1.trans (same_new (o := .lst (ms.map V.int)) hc)
    have s3 := s2.trans (same_new (o := .lst [V.ref c, .int 0, .int 0, .int 0]) hb)
    have nbc : c ≠ b := ne_of_none upd_same hb
    refine q b c _ (s2.free hb) (s1.free hc) ⟨⟨0, 0, 0, upd_same⟩, ⟨ms, ?_⟩⟩ s3
    rw [upd_ne nbc, upd_same]
def spAlpha : Sp := fun vs H Q _ => vs = [] ∧ Q (.str (tx alpha)) H
theorem ok_alpha {f : Addr} {fd : FuncData} (F : FnP K "_law_alphabet" "_law_alphabet" s_l_alphabet f fd) : FnOk P w K mg base CX0 1 f fd [] spAlpha := by
  refine F.ok sc_l_alphabet (fun vs H Q E h => ?_) (fun cdv A outer s H vs Q E hr h => ?_)
  · obtain ⟨rfl, _⟩ := h
    rfl
  · obtain ⟨rfl, q⟩ := h
    refine ⟨_, PSs.nox (pss_cons (ps_set (i := 0) sc_l_alphabet.nd rfl (.inl rfl) pe_str) (pss_one (ps_ret (pe_op op_add_str (pv 0) pe_str)))), ?_⟩
    refine ⟨_, rfl, _, _, rfl, rfl, line_small (by decide +kernel), ?_⟩
    have e : ∀ z : Str, z = tx alpha → Q (.str z) H := fun z hz => by
      rw [hz]
      exact q
    exact e _ (by decide +kernel)
def lettersV (ls : List Nat) : List V := ls.map fun n => V.str (sg n)
def spLetters : Sp := fun vs H Q _ => ∃ (b c : Addr) (many : Int), vs = [.ref b, .int many] ∧ Bag H b c ∧ 0 ≤ many ∧ many ≤ 94 ∧
  ∀ (p : Addr) (ls : List Nat) (H' : Hp), (ls.length : Int) = many → ls.Nodup → (∀ x ∈ ls, x ∈ alpha) → H p = none → H' p = some (.lst (lettersV ls)) → Bag H' b c → Kept b c H H' → Q (.ref p) H'
theorem ok_letters {f fA fD : Addr} {fd fdA fdD : FuncData} (F : FnP K "_law_letters" "_law_letters" s_l_letters f fd) (ml : mg "list" = none) (mn : mg "len" = none) (mr : mg "range" = none)
    (GA : FnOk P w K mg base CX0 1 fA fdA [] spAlpha) (gA : mg "_law_alphabet" = some (.ref fA)) (kA : PySem.W.keepIn K (.ref fA) = true) (bA : Binds K fdA [] [])
    (GD : FnOk P w K mg base CX0 1 fD fdD ["_law_bag_here", "_law_limit"] spDraw) (gD : mg "_law_draw" = some (.ref fD)) (kD : PySem.W.keepIn K (.ref fD) = true) (bD : Binds K fdD ["_law_bag_here", "_law_limit"] []) :
    FnOk P w K mg base CX0 2 f fd ["_law_bag_here", "_law_many"] spLetters := by
  have nd := sc_l_letters.nd
  refine F.ok sc_l_letters (fun vs H Q E h => ?_) (fun cdv A outer s H vs Q E hr h => ?_)
  · obtain ⟨b, c, many, rfl, _⟩ := h
    rfl
  · obtain ⟨b, c, many, rfl, B, h0, h94, q⟩ := h
    refine ⟨_, PSs.nox (pss_cons (ps_set (i := 2) nd rfl (.inl rfl) (pe_callTy (call_listTx rfl) (by rfl) ml (by decide +kernel) (pa_cons (pe_call0 GA hr (by rfl) gA kA bA .nil pass0) pa_nil)))
      (pss_cons (ps_set (i := 3) nd rfl (.inl rfl) (pe_lst pa_nil))
      (pss_cons (ps_for PassesOwn.never rfl (pi_range1 rfl mr (pa_cons (pv 1) pa_nil)) (pg_name (i := 4) nd rfl (.inl rfl))
        (pss_one (ps_expr (pe_bm PySem.F.plainAttrs_list PySem.F.slot_list_append PySem.F.type_list_append mt_append (pv 3)
          (pa_cons (pe_bm PySem.F.plainAttrs_list PySem.F.slot_list_pop PySem.F.type_list_pop mt_popAt (pv 2)
            (pa_cons (pe_call GD hr (by rfl) gD kD bD .nil pass0 (pa_cons (pv 0) (pa_cons (pe_callB call_len_seq (by rfl) mn PySem.boot_len (pa_cons (pv 2) pa_nil)) pa_nil))) pa_nil)) pa_nil)))))
      (pss_one (ps_ret (pv 3)))))), ?_⟩
    -- rest, found
    refine ⟨rfl, alpha, rfl, line_small (by rw [alpha_len]; decide), fun r hr0 => ?_⟩
    refine ⟨Nat.zero_le _, fun p hp => ?_⟩
    have s1 : Same H (upd H r (.lst (alpha.map fun n => V.str (sg n)))) := same_new hr0
    have hp0 : H p = none := s1.free hp
    have nrp : r ≠ p := ne_of_none upd_same hp
    refine ⟨_, rfl, many, rfl, by omega, by omega, for_range (n := many.toNat) (fun i σ H' => ∃ (x4 : Option V) (ls rs : List Nat), σ = [some (.ref b), some (.int many), some (.ref r), some (.ref p), x4] ∧ H' r = some (.lst (lettersV rs)) ∧ H' p = some (.lst (lettersV ls)) ∧
      (ls ++ rs).Perm alpha ∧ ls.length = i ∧ Bag H' b c ∧ Kept b c H H') ?_ ?_ ?_⟩
    · refine ⟨none, [], alpha, rfl, ?_, upd_same, List.Perm.refl _, rfl, ((B.new hr0).new hp), (Kept.refl.new hr0).new hp0⟩
      rw [upd_ne nrp, upd_same]
      rfl
    · rintro i σ H1 hi ⟨x4, ls, rs, rfl, h1, h2, pm, el, B1, K1⟩
      have elen : ls.length + rs.length = 94 := by
        rw [← List.length_append, pm.length_eq, alpha_len]
      have hrl : 0 < rs.length := by omega
      refine ⟨.ref p, rfl, .inl ⟨rfl, _, SqL.of h2⟩, .ref r, rfl, .inl ⟨rfl, _, SqL.of h1⟩, .ref b, rfl, .ref r, rfl, r, _, rfl, .inl (SqL.of h1), ?_⟩
      refine ⟨b, c, _, rfl, B1, ?_, ?_, fun d H2 d0 d1 B2 K2 => ?_⟩
      · rw [show (lettersV rs).length = rs.length from List.length_map _]
        omega
      · rw [show (lettersV rs).length = rs.length from List.length_map _]
        show rs.length < 2 ^ 200
        exact Nat.lt_of_le_of_lt (show rs.length ≤ 94 by omega) (by decide)
      · rw [show (lettersV rs).length = rs.length from List.length_map _] at d1
        obtain ⟨n1, m1, k1, hb1⟩ := B.top
        obtain ⟨ns1, hc1⟩ := B.cells
        have nrb : r ≠ b := Ne.symm (ne_of_none hb1 hr0)
        have nrc : r ≠ c := Ne.symm (ne_of_none hc1 hr0)
        have npb : p ≠ b := Ne.symm (ne_of_none hb1 hp0)
        have npc : p ≠ c := Ne.symm (ne_of_none hc1 hp0)
        have g1 := K2 _ _ h1 nrb nrc
        have g2 := K2 _ _ h2 npb npc
        have hj : d.toNat < rs.length := by omega
        have hx : rs[d.toNat]? = some rs[d.toNat] := List.getElem?_eq_getElem hj
        have hgx : (lettersV rs)[d.toNat]? = some (.str (sg rs[d.toNat])) := by
          unfold lettersV
          rw [List.getElem?_map, hx]
          rfl
        have hsq : seqIndex? d (lettersV rs).length = some d.toNat := by
          refine (ixN_seq (n := (lettersV rs).length) (i := d) (j := d.toNat) ?_).1
          unfold ixN lettersV
          rw [List.length_map, if_pos d0, if_pos (by omega)]
        refine ⟨r, _, d, d.toNat, _, rfl, rfl, g1, by omega, by omega, hsq, hgx, ?_⟩
        have ee : (lettersV rs).eraseIdx d.toNat = lettersV (rs.eraseIdx d.toNat) := by
          unfold lettersV
          exact erase_map _ _ _
        rw [ee]
        refine ⟨p, _, _, rfl, rfl, (by rw [upd_ne (Ne.symm nrp)]; exact g2), ?_, ?_⟩
        · rw [show (lettersV ls).length = ls.length from List.length_map _]
          exact small1000 (by omega)
        · have ea : lettersV ls ++ [V.str (sg rs[d.toNat])] = lettersV (ls ++ [rs[d.toNat]]) := by
            unfold lettersV
            rw [List.map_append]
            rfl
          rw [ea]
          refine ⟨_, ls ++ [rs[d.toNat]], rs.eraseIdx d.toNat, rfl, by rw [upd_ne nrp, upd_same], upd_same, ?_, ?_, ?_, ?_⟩
          · rw [List.append_assoc]
            refine List.Perm.trans (List.Perm.append_left ls ?_) pm
            exact erase_cons rs d.toNat hj
          · rw [List.length_append, el]
            rfl
          · obtain ⟨n2, m2, k2, hb2⟩ := B2.top
            obtain ⟨ns2, hc2⟩ := B2.cells
            exact ⟨⟨n2, m2, k2, by rw [upd_ne (Ne.symm npb), upd_ne (Ne.symm nrb)]; exact hb2⟩, ⟨ns2, by rw [upd_ne (Ne.symm npc), upd_ne (Ne.symm nrc)]; exact hc2⟩⟩
          · exact ((K1.trans K2).new hr0).new hp0
    · rintro σ H1 ⟨x4, ls, rs, rfl, h1, h2, pm, el, B1, K1⟩
      refine ⟨_, rfl, q p ls H1 (by omega) ?_ (fun x hx => pm.mem_iff.mp (List.mem_append_left _ hx)) hp0 h2 B1 K1⟩
      exact (List.nodup_append.mp (pm.nodup_iff.mpr alpha_nodup)).1
end
end K06

set_option autoImplicit false
set_option maxErrors 4
namespace K06
open PySem PySem.Spec PyProof.Rows L2 Tl
/-! ### integers, rows, bounds -/
/-- not an integer, as isinstance sees it -/
def NoInt (K : PySem.W.Frag) (H : Hp) (x : V) : Prop := ∃ (t : Value) (b1 b2 : Bool), TyX K H x t ∧ PySem.W.kitOne K t (.type "int") = some b1 ∧ PySem.W.kitOne K t (.type "bool") = some b2 ∧ (b1 && !b2) = false
/-- the names that isinstance needs -/
structure Nms (mg : Str → Option Value) : Prop where
  isi : mg "isinstance" = none
  int : mg "int" = none
  bool : mg "bool" = none
  list : mg "list" = none
  tuple : mg "tuple" = none
  str : mg "str" = none
  all : mg "all" = none
  any : mg "any" = none
  sum : mg "sum" = none
  len : mg "len" = none
  enumerate : mg "enumerate" = none
  range : mg "range" = none
  max : mg "max" = none
  sorted : mg "sorted" = none
section
variable (P : Program) (w : World) (K : PySem.W.Frag) (mg : Str → Option Value) (base : Heap) (CX : CXT)
/-- a def of the top that keeps its promise and can be called by its name -/
def Can (x : Str) (ps : List Str) (k : Nat) (sp : Sp) : Prop := ∃ f fd, FnOk P w K mg base CX k f fd ps sp ∧ mg x = some (.ref f) ∧ PySem.W.keepIn K (.ref f) = true ∧ Binds K fd ps []
end
section
variable {P : Program} {w : World} {K : PySem.W.Frag} {mg : Str → Option Value} {base : Heap}
def spIsInt (K : PySem.W.Frag) : Sp := fun vs H Q _ => ∃ x, vs = [x] ∧ ((∃ n, x = .int n ∧ Q (.bl true) H) ∨ (NoInt K H x ∧ Q (.bl false) H))
theorem ok_is_integer {f : Addr} {fd : FuncData} (F : FnP K "is_integer" "is_integer" s_is_integer f fd) (N : Nms mg) : FnOk P w K mg base CX0 1 f fd ["thing"] (spIsInt K) := by
  refine F.ok sc_is_integer (fun vs H Q E h => ?_) (fun cdv A outer s H vs Q E hr h => ?_)
  · obtain ⟨x, rfl, _⟩ := h
    rfl
  · obtain ⟨x, rfl, h⟩ := h
    refine ⟨_, PSs.nox (pss_one (ps_ret (pe_and (pe_callB call_isi (by rfl) N.isi (by decide +kernel) (pa_cons (pv 0) (pa_cons (pe_bltn (v := .ty "int") (by rfl) N.int (by decide +kernel) rfl) pa_nil)))
      (pe_one (pe_not (pe_callB call_isi (by rfl) N.isi (by decide +kernel) (pa_cons (pv 0) (pa_cons (pe_bltn (v := .ty "bool") (by rfl) N.bool (by decide +kernel) rfl) pa_nil)))))))), ?_⟩
    rcases h with ⟨n, rfl, q⟩ | ⟨⟨t, b1, b2, ty, k1, k2, e⟩, q⟩
    · refine ⟨_, rfl, _, _, _, _, true, rfl, .ty "int", .base (.int _), kit_ty (by decide +kernel), true, rfl, iteT ?_⟩
      exact ⟨_, rfl, _, _, _, _, false, rfl, .ty "bool", .base (.int _), kit_ty (by decide +kernel), false, rfl, q⟩
    · cases b1 with
      | false => exact ⟨_, rfl, _, _, _, _, false, rfl, .ty "int", ty, k1, false, rfl, iteF q⟩
      | true =>
        have e2 : b2 = true := by simpa using e
        subst e2
        exact ⟨_, rfl, _, _, _, _, true, rfl, .ty "int", ty, k1, true, rfl, iteT ⟨_, rfl, _, _, _, _, true, rfl, .ty "bool", ty, k2, true, rfl, q⟩⟩
def spWithin (K : PySem.W.Frag) : Sp := fun vs H Q _ => ∃ (x : V) (lo hi : Int), vs = [x, .int lo, .int hi] ∧ ((∃ n, x = .int n ∧ Q (.bl (decide (lo ≤ n ∧ n ≤ hi))) H) ∨ (NoInt K H x ∧ Q (.bl false) H))
theorem ok_within {f : Addr} {fd : FuncData} (F : FnP K "is_integer_within" "is_integer_within" s_is_integer_within f fd) (I : Can P w K mg base CX0 "is_integer" ["thing"] 1 (spIsInt K)) : FnOk P w K mg base CX0 2 f fd ["thing", "low", "high"] (spWithin K) := by
  obtain ⟨fI, fdI, GI, gI, kI, bI⟩ := I
  refine F.ok sc_is_integer_within (fun vs H Q E h => ?_) (fun cdv A outer s H vs Q E hr h => ?_)
  · obtain ⟨x, lo, hi, rfl, _⟩ := h
    rfl
  · obtain ⟨x, lo, hi, rfl, h⟩ := h
    refine ⟨_, PSs.nox (pss_one (ps_ret (pe_and (pe_call GI hr (by rfl) gI kI bI .nil pass0 (pa_cons (pv 0) pa_nil)) (pe_one (pe_chain op_le op_le (pv 1) (pv 0) (pv 2)))))), ?_⟩
    rcases h with ⟨n, rfl, q⟩ | ⟨no, q⟩
    · refine ⟨_, rfl, _, rfl, .inl ⟨n, rfl, true, rfl, iteT ?_⟩⟩
      refine ⟨_, rfl, _, rfl, _, _, rfl, rfl, _, rfl, ?_⟩
      by_cases h1 : lo ≤ n
      · have e : decide (lo ≤ n ∧ n ≤ hi) = decide (n ≤ hi) := by simp [h1]
        rw [e] at q
        refine (if_pos (decide_eq_true h1)).mpr ?_
        exact ⟨_, rfl, _, _, rfl, rfl, q⟩
      · have e : decide (lo ≤ n ∧ n ≤ hi) = false := by simp [h1]
        rw [e] at q
        refine (if_neg (by simpa using h1)).mpr ?_
        exact q
    · exact ⟨_, rfl, _, rfl, .inr ⟨no, false, rfl, iteF q⟩⟩
def spRow (K : PySem.W.Frag) : Sp := fun vs H Q _ => ∃ (x : V) (t : Value) (b1 b2 : Bool), vs = [x] ∧ TyX K H x t ∧ PySem.W.kitOne K t (.type "list") = some b1 ∧ PySem.W.kitOne K t (.type "tuple") = some b2 ∧ ∀ H', Same H H' → Q (.bl (b1 || b2)) H'
def spPc : Sp := fun vs H Q _ => ∃ (l : Nat) (m : Option Nat), vs = [.int l, m.elim .non fun n => .int (n : Nat)] ∧ Q (.int ((m.getD (Nat.max l 1) : Nat) : Int)) H
theorem ok_place_count {f : Addr} {fd : FuncData} (F : FnP K "place_count" "place_count" s_place_count f fd) (N : Nms mg) : FnOk P w K mg base CX0 1 f fd ["least", "most"] spPc := by
  refine F.ok sc_place_count (fun vs H Q E h => ?_) (fun cdv A outer s H vs Q E hr h => ?_)
  · obtain ⟨l, m, rfl, _⟩ := h
    rfl
  · obtain ⟨l, m, rfl, q⟩ := h
    refine ⟨_, PSs.nox (pss_cons (ps_if (pt_cmpR op_isN (pv 1) pe_non (nomark _)) (pss_one (ps_ret (pe_callB (call_max2 rfl) (by rfl) N.max (by decide +kernel) (pa_cons (pv 0) (pa_cons pe_int pa_nil))))) pss_nil) (pss_one (ps_ret (pv 1)))), ?_⟩
    cases m with
    | none =>
      refine ⟨_, rfl, rfl, _, rfl, iteT ?_⟩
      refine ⟨_, rfl, (l : Int), 1, rfl, ?_⟩
      have e : (if (1 : Int) > (l : Int) then (1 : Int) else (l : Int)) = ((Nat.max l 1 : Nat) : Int) := by
        show _ = ((max l 1 : Nat) : Int)
        split <;> omega
      rw [e]
      exact q
    | some n =>
      refine ⟨_, rfl, rfl, _, rfl, iteF ?_⟩
      exact ⟨_, rfl, q⟩
end
end K06

set_option autoImplicit false
set_option maxErrors 4
/-! The bit operators of natural numbers. -/
namespace Tl
open PySem PySem.Spec PyProof.Rows L2
theorem bitOr_nat (n m : Nat) : Builtin.bitOr (n : Int) (m : Int) = ((n ||| m : Nat) : Int) := by
  have e := bitOr_nn (Int.natCast_nonneg n) (Int.natCast_nonneg m)
  rw [Int.toNat_natCast, Int.toNat_natCast] at e
  exact e
theorem bitAnd_nat (n m : Nat) : Builtin.bitAnd (n : Int) (m : Int) = ((n &&& m : Nat) : Int) := by
  unfold Builtin.bitAnd
  rw [decide_eq_true (Int.natCast_nonneg n), decide_eq_true (Int.natCast_nonneg m)]
  show (((n : Int).toNat &&& (m : Int).toNat : Nat) : Int) = _
  rw [Int.toNat_natCast, Int.toNat_natCast]
/-- n & ~1 -/
theorem bitAnd_even (n : Nat) : Builtin.bitAnd (n : Int) (-2) = ((n / 2 * 2 : Nat) : Int) := by
  unfold Builtin.bitAnd
  rw [decide_eq_true (Int.natCast_nonneg n), show decide ((0 : Int) ≤ -2) = false by decide]
  show (n : Int) - (((n : Int).toNat &&& (Builtin.bitNot (-2)).toNat : Nat) : Int) = _
  rw [Int.toNat_natCast, show (Builtin.bitNot (-2)).toNat = 1 by decide, Nat.and_one_is_mod]
  omega
section
variable {X : Cx}
theorem op_orNat : OpR X (binaryOp .BitOr) (fun x y H Q => ∃ n m : Nat, x = .int n ∧ y = .int m ∧ Q (.int ((n ||| m : Nat) : Int)) H) := fun pins s σ H x y u v Q I rx ry h => by
  obtain ⟨n, m, rfl, rfl, q⟩ := h
  exact op_or pins s σ H _ _ u v Q I rx ry ⟨_, _, rfl, rfl, by dsimp only; rw [bitOr_nat]; exact q⟩
theorem op_andNat : OpR X (binaryOp .BitAnd) (fun x y H Q => ∃ n m : Nat, x = .int n ∧ y = .int m ∧ Q (.int ((n &&& m : Nat) : Int)) H) := fun pins s σ H x y u v Q I rx ry h => by
  obtain ⟨n, m, rfl, rfl, q⟩ := h
  exact op_and pins s σ H _ _ u v Q I rx ry ⟨_, _, rfl, rfl, by dsimp only; rw [bitAnd_nat]; exact q⟩
theorem op_andEven : OpR X (binaryOp .BitAnd) (fun x y H Q => ∃ n : Nat, x = .int n ∧ y = .int (-2) ∧ Q (.int ((n / 2 * 2 : Nat) : Int)) H) := fun pins s σ H x y u v Q I rx ry h => by
  obtain ⟨n, rfl, rfl, q⟩ := h
  exact op_and pins s σ H _ _ u v Q I rx ry ⟨_, _, rfl, rfl, by dsimp only; rw [bitAnd_even]; exact q⟩
theorem op_shlNat : OpR X (binaryOp .LShift) (fun x y H Q => ∃ n k : Nat, x = .int n ∧ y = .int k ∧ n < 2 ^ 4000 ∧ k ≤ 4000 ∧ Q (.int ((n <<< k : Nat) : Int)) H) := fun pins s σ H x y u v Q I rx ry h => by
  obtain ⟨n, k, rfl, rfl, hn, hk, q⟩ := h
  refine op_shlN pins s σ H _ _ u v Q I rx ry ⟨n, k, rfl, rfl, shl_ok (n := 4000) (by rw [Int.natAbs_natCast]; exact hn) (by omega), ?_⟩
  have e : (n : Int) * 2 ^ k = ((n <<< k : Nat) : Int) := by rw [Nat.shiftLeft_eq]; push_cast; rfl
  rw [e]
  exact q
theorem op_shrNat : OpR X (binaryOp .RShift) (fun x y H Q => ∃ n k : Nat, x = .int n ∧ y = .int k ∧ Q (.int ((n >>> k : Nat) : Int)) H) := fun pins s σ H x y u v Q I rx ry h => by
  obtain ⟨n, k, rfl, rfl, q⟩ := h
  refine op_shrN pins s σ H _ _ u v Q I rx ry ⟨n, k, rfl, rfl, ?_⟩
  have e : (n : Int) / 2 ^ k = ((n >>> k : Nat) : Int) := by rw [Nat.shiftRight_eq_div_pow]; push_cast; rfl
  rw [e]
  exact q
theorem op_addNat : OpR X (binaryOp .Add) (fun x y H Q => ∃ n m : Nat, x = .int n ∧ y = .int m ∧ Q (.int ((n + m : Nat) : Int)) H) := op_addN
theorem op_subNat : OpR X (binaryOp .Sub) (fun x y H Q => ∃ n m : Nat, x = .int n ∧ y = .int m ∧ m ≤ n ∧ Q (.int ((n - m : Nat) : Int)) H) := op_subN
end
/-! ### bounds -/
theorem or_lt {a b k : Nat} (ha : a < 2 ^ k) (hb : b < 2 ^ k) : a ||| b < 2 ^ k := Nat.or_lt_two_pow ha hb
theorem shl_lt {a k j : Nat} (ha : a < 2 ^ k) : a <<< j < 2 ^ (k + j) := by
  rw [Nat.shiftLeft_eq, Nat.pow_add]
  exact Nat.mul_lt_mul_of_pos_right ha (Nat.two_pow_pos j)
theorem shr_le (a k : Nat) : a >>> k ≤ a := by
  rw [Nat.shiftRight_eq_div_pow]
  exact Nat.div_le_self _ _
theorem lt_mono {a j k : Nat} (h : a < 2 ^ j) (l : j ≤ k) : a < 2 ^ k := Nat.lt_of_lt_of_le h (Nat.pow_le_pow_right (by decide) l)
end Tl

set_option autoImplicit false
set_option maxErrors 4
namespace K06
open PySem PySem.Spec PyProof.Rows L2 Tl
/-! ### nets, as they are reckoned -/
structure LNet where
  chars : List Str
  follow : List Nat
  exits : Nat
def LNet.Ok (n : LNet) : Prop := n.follow.length = n.chars.length + 1 ∧ n.chars.length ≤ 1000 ∧ (∀ x ∈ n.follow, x < 2 ^ (n.chars.length + 1)) ∧ n.exits < 2 ^ (n.chars.length + 1) ∧ ∀ s ∈ n.chars, s.cps.size ≤ 1000
def pcL (l : Nat) (m : Option Nat) : Nat := m.getD (Nat.max l 1)
def ren (p s : Nat) : Nat := ((p >>> 1) <<< (1 + s)) ||| (p &&& 1)
def runL (sg : Str) (l : Nat) (m : Option Nat) : LNet :=
  ⟨List.replicate (pcL l m) sg, (List.range (pcL l m)).map (fun t => 1 <<< (1 + t)) ++ [m.elim (1 <<< pcL l m) fun _ => 0], (1 <<< (pcL l m + 1)) - (1 <<< l)⟩
theorem ren_lt {p s k : Nat} (h : p < 2 ^ (k + 1)) : ren p s < 2 ^ (k + s + 1) := by
  unfold ren
  have e : p >>> 1 < 2 ^ k := by
    rw [Nat.shiftRight_eq_div_pow]
    exact Nat.div_lt_of_lt_mul (by rw [Nat.pow_succ] at h; omega)
  refine or_lt ?_ ?_
  · have z := shl_lt (j := 1 + s) e
    have e2 : k + (1 + s) = k + s + 1 := by omega
    rw [e2] at z
    exact z
  · refine Nat.lt_of_le_of_lt (Nat.and_le_right) ?_
    exact Nat.lt_of_lt_of_le (show 1 < 2 ^ 1 by decide) (Nat.pow_le_pow_right (by decide) (by omega))
theorem one_shl (k : Nat) : 1 <<< k = 2 ^ k := by rw [Nat.shiftLeft_eq, Nat.one_mul]
theorem pcL_le {l : Nat} {m : Option Nat} (h : ∀ n, m = some n → l ≤ n) : l ≤ pcL l m := by
  cases m with
  | none => exact Nat.le_max_left _ _
  | some n => exact h n rfl
theorem runL_ok {sg : Str} {l : Nat} {m : Option Nat} (hs : sg.cps.size ≤ 1000) (h : ∀ n, m = some n → l ≤ n) (hp : pcL l m ≤ 1000) : (runL sg l m).Ok := by
  unfold LNet.Ok runL
  refine ⟨by simp, by simpa using hp, fun x hx => ?_, ?_, fun s h => by rw [List.eq_of_mem_replicate h]; exact hs⟩
  · simp only [List.length_replicate]
    rcases List.mem_append.mp hx with hx | hx
    · obtain ⟨t, ht, rfl⟩ := List.mem_map.mp hx
      rw [List.mem_range] at ht
      rw [one_shl]
      exact Nat.pow_lt_pow_right (by decide) (by omega)
    · rw [List.mem_singleton.mp hx]
      cases m with
      | none =>
        show 1 <<< pcL l none < _
        rw [one_shl]
        exact Nat.pow_lt_pow_right (by decide) (by omega)
      | some n => exact Nat.two_pow_pos _
  · simp only [List.length_replicate]
    rw [one_shl, one_shl]
    have z : 0 < 2 ^ l := Nat.two_pow_pos _
    have z2 : 0 < 2 ^ (pcL l m + 1) := Nat.two_pow_pos _
    omega
def intsV (xs : List Nat) : List V := xs.map fun x => V.int (x : Nat)
def strsV (xs : List Str) : List V := xs.map V.str
/-! dicts from texts to numbers -/
abbrev SN := List (Str × Nat)
def kvsV (d : SN) : List (Key × V) := d.map fun p => (Sum.inr p.1, V.int (p.2 : Nat))
def getN (d : SN) (s : Str) : Option Nat := (d.find? fun p => decide (p.1 = s)).map (·.2)
def putN (d : SN) (s : Str) (v : Nat) : SN := if (d.any fun p => decide (p.1 = s)) = true then d.map (fun p => if p.1 = s then (p.1, v) else p) else d ++ [(s, v)]
def addN (d : SN) (s : Str) (v : Nat) : SN := putN d s ((getN d s).getD 0 ||| v)
def bySt (cs : List Str) : SN := (List.range cs.length).foldl (fun d i => addN d (cs.getD i default) (1 <<< (1 + i))) []
def spread (c : SN) (s : Str) (v : Nat) : SN := s.cps.toList.foldl (fun c n => addN c ⟨#[n]⟩ v) c
def byCh (d : SN) : SN := d.foldl (fun c p => spread c p.1 p.2) []
def standsFor (cs : List Str) : List (Key × V) := kvsV (byCh (bySt cs))
theorem putN_length (d : SN) (s : Str) (v : Nat) : (putN d s v).length ≤ d.length + 1 := by
  unfold putN
  split <;> simp
theorem kvsV_get (d : SN) (s : Str) : valV (kvsV d) (Sum.inr s) = (getN d s).map fun n => V.int (n : Nat) := by
  unfold valV kvsV getN
  induction d with
  | nil => rfl
  | cons p r ih =>
    rw [List.map_cons, List.find?_cons, List.find?_cons]
    by_cases e : p.1 = s
    · rw [decide_eq_true e, decide_eq_true (show (Sum.inr p.1 : Key) = Sum.inr s by rw [e])]
      rfl
    · rw [decide_eq_false e, decide_eq_false (show ¬ (Sum.inr p.1 : Key) = Sum.inr s from fun z => e (Sum.inr.inj z))]
      exact ih
theorem kvsV_put (d : SN) (s : Str) (v : Nat) : putK (kvsV d) (Sum.inr s) (.int (v : Nat)) = kvsV (putN d s v) := by
  have ea : ((kvsV d).any fun kv => decide (kv.1 = Sum.inr s)) = d.any fun p => decide (p.1 = s) := by
    unfold kvsV
    rw [List.any_map]
    congr 1
    funext p
    show decide ((Sum.inr p.1 : Key) = Sum.inr s) = decide (p.1 = s)
    rw [decide_eq_decide]
    exact ⟨fun z => Sum.inr.inj z, fun z => by rw [z]⟩
  unfold putK putN
  rw [ea]
  split
  · unfold kvsV
    rw [List.map_map, List.map_map]
    refine List.map_congr_left fun p _ => ?_
    by_cases e : p.1 = s
    · simp [e]
    · have e2 : ¬ (Sum.inr p.1 : Key) = Sum.inr s := fun z => e (Sum.inr.inj z)
      simp [e]
  · unfold kvsV
    rw [List.map_append]
    rfl
/-- the net n stands at r -/
def NetAt (NC : Addr) (H : Hp) (r : Addr) (n : LNet) : Prop := ∃ dx c f d, H r = some (.ins NC dx [("chars", .ref c), ("follow", .ref f), ("exits", .int (n.exits : Nat)), ("stands_for", .ref d)]) ∧ H c = some (.lst (strsV n.chars)) ∧ H f = some (.lst (intsV n.follow)) ∧ H d = some (.dK (standsFor n.chars))
theorem NetAt.same {NC : Addr} {H H' : Hp} {r : Addr} {n : LNet} (h : NetAt NC H r n) (s : Same H H') : NetAt NC H' r n := by
  obtain ⟨dx, c, f, d, h1, h2, h3, h4⟩ := h
  exact ⟨dx, c, f, d, s _ _ h1, s _ _ h2, s _ _ h3, s _ _ h4⟩
/-- the net n has been made at r over the lists at c and f -/
def NetNew (NC : Addr) (H H' : Hp) (r c f : Addr) (n : LNet) : Prop := ∃ dx d, H d = none ∧ H' r = some (.ins NC dx [("chars", .ref c), ("follow", .ref f), ("exits", .int (n.exits : Nat)), ("stands_for", .ref d)]) ∧ H' c = some (.lst (strsV n.chars)) ∧ H' f = some (.lst (intsV n.follow)) ∧ H' d = some (.dK (standsFor n.chars))
theorem NetNew.at {NC : Addr} {H H' : Hp} {r c f : Addr} {n : LNet} (h : NetNew NC H H' r c f n) : NetAt NC H' r n := by
  obtain ⟨dx, d, _, h1, h2, h3, h4⟩ := h
  exact ⟨dx, c, f, d, h1, h2, h3, h4⟩
theorem NetNew.of {NC : Addr} {H0 H H' : Hp} {r c f : Addr} {n : LNet} (s : Same H0 H) (h : NetNew NC H H' r c f n) : NetNew NC H0 H' r c f n := by
  obtain ⟨dx, d, h0, h⟩ := h
  exact ⟨dx, d, s.free h0, h⟩
/-- a new net, beside a heap in which all stands as it stood -/
abbrev GivesNet (NC : Addr) (H : Hp) (Q : VK) (n : LNet) : Prop := ∀ r c f H', Same H H' → H r = none → H c = none → H f = none → NetNew NC H H' r c f n → Q (.ref r) H'
/-- all of it stays when what was there before it is changed -/
theorem NetNew.put {NC : Addr} {H H' : Hp} {r c f D : Addr} {n : LNet} {o u : HO} (h : NetNew NC H H' r c f n) (hr : H r = none) (hc : H c = none) (hf : H f = none) (hD : H D = some o) : NetAt NC (upd H' D u) r n := by
  obtain ⟨dx, d, h0, h1, h2, h3, h4⟩ := h
  have ne : ∀ {x : Addr}, H x = none → x ≠ D := fun {x} z e => by
    rw [e, hD] at z
    cases z
  exact ⟨dx, c, f, d, by rw [upd_ne (ne hr)]; exact h1, by rw [upd_ne (ne hc)]; exact h2, by rw [upd_ne (ne hf)]; exact h3, by rw [upd_ne (ne h0)]; exact h4⟩
section
variable {P : Program} {w : World} {K : PySem.W.Frag} {mg : Str → Option Value} {base : Heap}
def spRen : Sp := fun vs H Q _ => ∃ p s : Nat, vs = [.int (p : Nat), .int (s : Nat)] ∧ p < 2 ^ 2000 ∧ s ≤ 2000 ∧ Q (.int (ren p s : Nat)) H
theorem ok_ren {f : Addr} {fd : FuncData} (F : FnP K "renumbered" "renumbered" s_renumbered f fd) (gS : ∃ t, mg "START" = some (.int 1 t)) : FnOk P w K mg base CX0 1 f fd ["places", "shift"] spRen := by
  obtain ⟨t, gS⟩ := gS
  refine F.ok sc_renumbered (fun vs H Q E h => ?_) (fun cdv A outer s H vs Q E hr h => ?_)
  · obtain ⟨p, s, rfl, _⟩ := h
    rfl
  · obtain ⟨p, s, rfl, hp, hs, q⟩ := h
    refine ⟨_, PSs.nox (pss_one (ps_ret (pe_op op_orNat (pe_op op_shlNat (pe_op op_shrNat (pv 0) pe_int) (pe_op op_addNat pe_int (pv 1))) (pe_op op_andNat (pv 0) (pe_glob (v := .int 1) (by rfl) gS ⟨_, rfl⟩))))), ?_⟩
    refine ⟨_, rfl, p, 1, rfl, rfl, _, rfl, 1, s, rfl, rfl, p >>> 1, 1 + s, rfl, rfl, ?_, by omega, _, rfl, p, 1, rfl, rfl, _, _, rfl, rfl, q⟩
    exact Nat.lt_of_le_of_lt (shr_le _ _) (lt_mono hp (by decide))
/-- how Net(..) is made -/
def CanNet (P : Program) (w : World) (K : PySem.W.Frag) (mg : Str → Option Value) (base : Heap) (NC : Addr) (k : Nat) : Prop := ∃ f fd, Mk K NC f ∧ mg "Net" = some (.ref NC) ∧ Binds K fd ["self", "chars", "follow", "exits"] [] ∧
  FnOk P w K mg base CX0 k f fd ["self", "chars", "follow", "exits"] (fun vs H Q _ => ∃ (p dx c f : Addr) (n : LNet), vs = [.ref p, .ref c, .ref f, .int (n.exits : Nat)] ∧ n.Ok ∧ H p = some (.ins NC dx []) ∧ H c = some (.lst (strsV n.chars)) ∧ H f = some (.lst (intsV n.follow)) ∧
    ∀ H', (∀ x o, H x = some o → x ≠ p → H' x = some o) → NetNew NC H H' p c f n → Q .non H')
theorem make_net {NC c f : Addr} {H : Hp} {Q : VK} {n : LNet} (ok : n.Ok) (hc : H c = some (.lst (strsV n.chars))) (hf : H f = some (.lst (intsV n.follow))) (q : ∀ r H', Same H H' → H r = none → NetNew NC H H' r c f n → Q (.ref r) H') : ∀ x dx, H x = none → H dx = none → dx ≠ x →
    (fun (vs : List V) (H : Hp) (Q : VK) (_ : XK) => ∃ (p dx c f : Addr) (n : LNet), vs = [.ref p, .ref c, .ref f, .int (n.exits : Nat)] ∧ n.Ok ∧ H p = some (.ins NC dx []) ∧ H c = some (.lst (strsV n.chars)) ∧ H f = some (.lst (intsV n.follow)) ∧
      ∀ H', (∀ x o, H x = some o → x ≠ p → H' x = some o) → NetNew NC H H' p c f n → Q .non H') (.ref x :: ([.ref c, .ref f, .int (n.exits : Nat)] ++ [])) (upd (upd H dx (.own x)) x (.ins NC dx [])) (fun v H2 => v = .non ∧ Q (.ref x) H2) E0 := by
  intro x dx hx hdx ne
  have far : ∀ {b : Addr} {o : HO}, H b = some o → (upd (upd H dx (.own x)) x (.ins NC dx [])) b = some o := fun {b o} e => by
    rw [upd_ne (ne_of_none e hx), upd_ne (ne_of_none e hdx)]
    exact e
  exact ⟨x, dx, c, f, n, rfl, ok, upd_same, far hc, far hf, fun H' k e => ⟨rfl, q x H' (fun b o z => k b o (far z) (ne_of_none z hx)) hx (e.of fun b o z => far z)⟩⟩
end
end K06

set_option autoImplicit false
/-! Steps through a reading. -/
namespace Tl
open PySem PySem.Spec PyProof.Rows L2
theorem asg_go {te : TE} {g : TG} {D : Ends} {σ : L2.St} {H : Hp} (h : te σ H fun x H1 => g x σ H1 D.nx) : tAsg te g D σ H := h
theorem seq_go {t u : TS} {D : Ends} {σ : L2.St} {H : Hp} (h : t { D with nx := u D } σ H) : tSeq t u D σ H := h
theorem name_go {i : Nat} {v : V} {σ : L2.St} {H : Hp} {Q : L2.St → Hp → Prop} (h : Q (σ.set i (some v)) H) : gName i v σ H Q := h
theorem yes_keep {σ : L2.St} {H : Hp} {Ya Na : Hp → Prop} (h : Ya H) : tYes σ H (fun b H3 => if b = true then Ya H3 else Na H3) := by
  show if true = true then Ya H else Na H
  rw [if_pos rfl]
  exact h
theorem rep_flat {α : Type} (x : α) : ∀ n : Nat, (List.replicate n [x]).flatten = List.replicate n x
  | 0 => rfl
  | n + 1 => by rw [List.replicate_succ, List.flatten_cons, rep_flat x n, List.replicate_succ]; rfl
theorem te_go {t : TE} {σ : L2.St} {H : Hp} {Q : VK} (v : V) (h : ∀ Q' : VK, Q' v H → t σ H Q') (q : Q v H) : t σ H Q := h Q q
/-- an int as a test -/
theorem tru_int {X : Cx} : TruR X (fun x H Q => ∃ i, x = .int i ∧ Q (i != 0) H) := fun pins s σ H x v Q I r h => by
  obtain ⟨i, rfl, q⟩ := h
  exact tru_ok pins s σ H _ v Q I r ⟨_, rfl, q⟩
theorem pt_int {X : Cx} {a : Expr} {ta : TE} (ha : PE X a ta) (he : ∀ whole, isTrue a X.env whole = (do let v ← whole; standAt a.pos; holding [v] (truthy v)) := by intro _; rfl) : PT X a (fun σ H Q => ta σ H fun x H' => ∃ i, x = .int i ∧ Q (i != 0) H') := pt_truthR ha tru_int he
end Tl

set_option autoImplicit false
set_option maxErrors 4
namespace K06
open PySem PySem.Spec PyProof.Rows L2 Tl
abbrev mostV (m : Option Nat) : V := m.elim .non fun n => .int (n : Nat)
section
variable {P : Program} {w : World} {K : PySem.W.Frag} {mg : Str → Option Value} {base : Heap} {NC : Addr}
def spRunNet (NC : Addr) : Sp := fun vs H Q _ => ∃ (sg : Str) (l : Nat) (m : Option Nat), vs = [.str sg, .int (l : Nat), mostV m] ∧ sg.cps.size ≤ 1000 ∧ (∀ n, m = some n → l ≤ n) ∧ pcL l m ≤ 500 ∧ GivesNet NC H Q (runL sg l m)
theorem ok_run_net {k : Nat} {f : Addr} {fd : FuncData} (F : FnP K "run_net" "run_net" s_run_net f fd) (N : Nms mg) (C : Can P w K mg base CX0 "place_count" ["least", "most"] 1 spPc) (M : CanNet P w K mg base NC k) : FnOk P w K mg base CX0 (k + 2) f fd ["signs", "least", "most"] (spRunNet NC) := by
  obtain ⟨fC, fdC, GC, gC, kC, bC⟩ := C
  obtain ⟨fM, fdM, MM, gM, bM, GM⟩ := M
  have nd := sc_run_net.nd
  refine F.ok sc_run_net (fun vs H Q E h => ?_) (fun cdv A outer s H vs Q E hr h => ?_)
  · obtain ⟨sg, l, m, rfl, _⟩ := h
    rfl
  · obtain ⟨sg, l, m, rfl, hsg, hl, hp, q⟩ := h
    refine ⟨_, PSs.nox (pss_cons (ps_set (i := 3) nd rfl (.inl rfl) (pe_call GC (hr.mono (by omega)) (by rfl) gC kC bC .nil pass0 (pa_cons (pv 1) (pa_cons (pv 2) pa_nil))))
      (pss_cons (ps_set (i := 4) nd rfl (.inl rfl) (pe_ifExp (pt_cmpR op_isN (pv 2) pe_non (nomark _)) (pe_op op_shlNat pe_int (pv 3)) pe_int))
      (pss_cons (ps_set (i := 6) nd rfl (.inl rfl) (pe_op op_cat (pe_lc (own := [("taken", 5)]) (g := gName 5) (tt := tYes) rfl nd (pi_range1 rfl N.range (pa_cons (pv 3) pa_nil)) (blkOk_by (N := ["signs", "least", "most", "count", "after_last", "taken", "follow", "exits"]) (sc := defScope s_run_net) (by decide +kernel)) (fun _ _ _ _ _ => pg_name (i := 5) nd rfl (Or.inl rfl)) (fun _ _ _ _ _ => pts_nil)
          (fun _ _ _ _ _ => pe_op op_shlNat pe_int (pe_op op_addNat pe_int (pv 5)))) (pe_lst (pa_cons (pv 4) pa_nil))))
      (pss_cons (ps_set (i := 7) nd rfl (.inl rfl) (pe_op op_subNat (pe_op op_shlNat pe_int (pe_op op_addNat (pv 3) pe_int)) (pe_op op_shlNat pe_int (pv 1))))
      (pss_one (ps_ret (pe_make MM GM hr (by rfl) gM bM .nil pass0 (pa_cons (pe_op op_rep (pe_lst (pa_cons (pv 0) pa_nil)) (pv 3)) (pa_cons (pv 6) (pa_cons (pv 7) pa_nil)))))))))), ?_⟩
    refine ⟨_, rfl, _, rfl, l, m, rfl, ?_⟩
    refine name_go ?_
    dsimp only
    have ec : m.getD (Nat.max l 1) = pcL l m := rfl
    rw [ec]
    have lc := pcL_le hl
    refine seq_go (asg_go ?_)
    have wide : 1 < 2 ^ 4000 := Nat.lt_of_lt_of_le (show 1 < 2 ^ 1 by decide) (Nat.pow_le_pow_right (by decide) (by decide))
    refine te_go (.int ((m.elim (1 <<< pcL l m) fun _ => 0 : Nat) : Int)) (fun Q' z => ?_) ?_
    · cases m with
      | none => exact ⟨_, rfl, rfl, _, rfl, iteT ⟨_, rfl, 1, pcL l none, rfl, rfl, wide, by omega, z⟩⟩
      | some n => exact ⟨_, rfl, rfl, _, rfl, iteF z⟩
    refine name_go ?_
    dsimp only
    refine seq_go (asg_go ?_)
    have tn : ((pcL l m : Nat) : Int).toNat = pcL l m := Int.toNat_natCast _
    refine ⟨_, rfl, ((pcL l m : Nat) : Int), rfl, by omega, by omega, fun D hD => ?_⟩
    refine lc_range (lo := 0) (n := ((pcL l m : Nat) : Int).toNat) (fun i H' => H' D = some (.lst (intsV ((List.range i).map fun t => 1 <<< (1 + t)))) ∧ Same H H') ⟨upd_same, same_new hD⟩ ?_ ?_
    · rintro i H' hi ⟨e, sm⟩
      rw [tn] at hi
      refine ⟨rfl, yes_keep ?_⟩
      have ei : (0 : Int) + (i : Int) = ((i : Nat) : Int) := Int.zero_add _
      rw [ei]
      refine ⟨_, rfl, 1, i, rfl, rfl, 1, 1 + i, rfl, rfl, wide, by omega, _, e, ?_, ?_, ?_⟩
      · unfold intsV
        rw [List.length_map, List.length_map, List.length_range]
        exact small1000 (by omega)
      · rw [upd_same, List.range_succ]
        unfold intsV
        rw [List.map_append, List.map_append]
        rfl
      · intro x u z
        rw [upd_ne (ne_of_none z hD)]
        exact sm _ _ z
    · rintro H1 ⟨e1, s1⟩
      rw [tn] at e1
      have r1 := runL_ok (sg := sg) hsg hl (Nat.le_trans hp (by decide))
      refine ⟨_, rfl, line_small (by show 1 ≤ 16777216; decide), fun b hb => ?_⟩
      have s2 := s1.trans (same_new (o := .lst [.int ((m.elim (1 <<< pcL l m) fun _ => 0 : Nat) : Int)]) hb)
      refine ⟨D, b, _, [.int ((m.elim (1 <<< pcL l m) fun _ => 0 : Nat) : Int)], rfl, rfl, (same_new hb) _ _ e1, upd_same, ?_, fun fo hfo => ?_⟩
      · unfold intsV
        rw [List.length_map, List.length_map, List.length_range]
        exact line_small (by show pcL l m + 1 ≤ 16777216; omega)
      have ef : intsV ((List.range (pcL l m)).map fun t => 1 <<< (1 + t)) ++ [.int ((m.elim (1 <<< pcL l m) fun _ => 0 : Nat) : Int)] = intsV (runL sg l m).follow := by
        unfold intsV runL
        rw [List.map_append]
        rfl
      rw [ef]
      have s3 := s2.trans (same_new (o := .lst (intsV (runL sg l m).follow)) hfo)
      refine name_go ?_
      dsimp only
      refine seq_go (asg_go ?_)
      have le : 1 <<< l ≤ 1 <<< (pcL l m + 1) := by
        rw [one_shl, one_shl]
        exact Nat.pow_le_pow_right (by decide) (by omega)
      refine ⟨_, rfl, pcL l m, 1, rfl, rfl, 1, pcL l m + 1, rfl, rfl, wide, by omega, _, rfl, 1, l, rfl, rfl, wide, by omega, _, _, rfl, rfl, le, ?_⟩
      refine name_go ?_
      dsimp only
      refine ⟨_, rfl, line_small (by show 1 ≤ 16777216; decide), fun b2 hb2 => ?_⟩
      refine ⟨_, rfl, b2, ((pcL l m : Nat) : Int), _, rfl, rfl, upd_same, by omega, by omega, ?_, fun c hc => ?_⟩
      · rw [tn]
        exact line_small (by show 1 * pcL l m ≤ 16777216; omega)
      have ec2 : (List.replicate ((pcL l m : Nat) : Int).toNat [V.str sg]).flatten = strsV (runL sg l m).chars := by
        rw [tn, rep_flat]
        unfold strsV runL
        rw [List.map_replicate]
      rw [ec2]
      have k1 := same_new (o := .lst [V.str sg]) hb2
      have k2 := same_new (o := .lst (strsV (runL sg l m).chars)) hc
      refine ⟨_, rfl, _, rfl, ?_⟩
      exact make_net (n := runL sg l m) r1 upd_same (k2 _ _ (k1 _ _ upd_same)) fun r H' sm hr0 at_ => q r c fo H' (((s3.trans k1).trans k2).trans sm) (((s3.trans k1).trans k2).free hr0) ((s3.trans k1).free hc) (s2.free hfo) (at_.of ((s3.trans k1).trans k2))
end
end K06

set_option autoImplicit false
set_option maxErrors 4
namespace K06
open PySem PySem.Spec PyProof.Rows L2 Tl
/-! ### nets one after the other -/
def joinF (fo : List Nat) (ex first : Nat) : List Nat := (List.range fo.length).map fun j => if (ex >>> j) &&& 1 = 0 then fo.getD j 0 else fo.getD j 0 ||| first
def chainStep (a n : LNet) : LNet :=
  ⟨a.chars ++ n.chars, joinF a.follow a.exits (ren (n.follow.getD 0 0) a.chars.length) ++ (n.follow.drop 1).map (fun x => ren x a.chars.length), ren (n.exits / 2 * 2) a.chars.length ||| (if n.exits &&& 1 = 0 then 0 else a.exits)⟩
def chain0 : LNet := ⟨[], [0], 1⟩
def chainL (ns : List LNet) : LNet := ns.foldl chainStep chain0
theorem chain0_ok : chain0.Ok := ⟨rfl, Nat.zero_le _, fun x hx => by rw [List.mem_singleton.mp hx]; decide, by decide, fun s h => by cases h⟩
theorem getD_lt {fo : List Nat} {k j : Nat} (h : ∀ x ∈ fo, x < 2 ^ k) : fo.getD j 0 < 2 ^ k := by
  by_cases z : j < fo.length
  · rw [List.getD_eq_getElem?_getD, List.getElem?_eq_getElem z]
    exact h _ (List.getElem_mem z)
  · rw [List.getD_eq_getElem?_getD, List.getElem?_eq_none (Nat.not_lt.mp z)]
    exact Nat.two_pow_pos _
theorem chainStep_ok {a n : LNet} (ha : a.Ok) (hn : n.Ok) (small : a.chars.length + n.chars.length ≤ 1000) : (chainStep a n).Ok := by
  obtain ⟨a1, a2, a3, a4, a5⟩ := ha
  obtain ⟨n1, n2, n3, n4, n5⟩ := hn
  have up : ∀ {x : Nat}, x < 2 ^ (n.chars.length + 1) → ren x a.chars.length < 2 ^ (a.chars.length + n.chars.length + 1) := fun {x} h => by
    have z := ren_lt (s := a.chars.length) h
    rw [show n.chars.length + a.chars.length + 1 = a.chars.length + n.chars.length + 1 by omega] at z
    exact z
  have wd : ∀ {x : Nat}, x < 2 ^ (a.chars.length + 1) → x < 2 ^ (a.chars.length + n.chars.length + 1) := fun {x} h => lt_mono h (by omega)
  unfold LNet.Ok chainStep joinF
  simp only [List.length_append, List.length_map, List.length_range, List.length_drop]
  refine ⟨by omega, small, fun x hx => ?_, ?_, fun s h => (List.mem_append.mp h).elim (a5 s) (n5 s)⟩
  · rcases List.mem_append.mp hx with hx | hx
    · obtain ⟨j, _, rfl⟩ := List.mem_map.mp hx
      split
      · exact wd (getD_lt a3)
      · exact or_lt (wd (getD_lt a3)) (up (getD_lt n3))
    · obtain ⟨y, hy, rfl⟩ := List.mem_map.mp hx
      exact up (n3 y (List.mem_of_mem_drop hy))
  · refine or_lt (up ?_) ?_
    · omega
    · split
      · exact Nat.two_pow_pos _
      · exact wd a4
def charsOf (ns : List LNet) : Nat := (ns.map fun n => n.chars.length).sum
theorem cut_one {xs : List V} : cutV xs (some 1) none = xs.drop 1 := by
  unfold cutV
  cases xs with
  | nil => rfl
  | cons x r =>
    have e1 : HT.sIx (x :: r).length 0 (some 1) = 1 := by
      unfold HT.sIx
      simp
    have e2 : HT.sIx (x :: r).length (x :: r).length none = (x :: r).length := by
      unfold HT.sIx
      simp
    rw [e1, e2]
    exact List.take_of_length_le (by simp)
theorem intsV_drop (xs : List Nat) (n : Nat) : (intsV xs).drop n = intsV (xs.drop n) := by
  unfold intsV
  rw [List.map_drop]
theorem intsV_app (xs ys : List Nat) : intsV xs ++ intsV ys = intsV (xs ++ ys) := by
  unfold intsV
  rw [List.map_append]
theorem intsV_len (xs : List Nat) : (intsV xs).length = xs.length := List.length_map _
theorem intsV_get {xs : List Nat} {i : Nat} (h : i < xs.length) : (intsV xs)[i]? = some (.int (xs.getD i 0 : Nat)) := by
  unfold intsV
  rw [List.getElem?_map, List.getD_eq_getElem?_getD, List.getElem?_eq_getElem h]
  rfl
end K06

set_option autoImplicit false
set_option maxErrors 4
namespace K06
open PySem PySem.Spec PyProof.Rows L2 Tl
/-- what is asked of the class Net -/
structure NetC (K : PySem.W.Frag) (NC : Addr) : Prop where
  cl : Cls K NC
  n1 : NoAttr K NC "chars"
  n2 : NoAttr K NC "follow"
  n3 : NoAttr K NC "exits"
  n4 : NoAttr K NC "stands_for"
abbrev Prs := List (Addr × LNet)
/-- nets in a list -/
def NetsAt (NC : Addr) (H : Hp) (ps : Prs) : Prop := ∀ x ∈ ps, NetAt NC H x.1 x.2 ∧ x.2.Ok
theorem NetsAt.same {NC : Addr} {H H' : Hp} {ps : Prs} (h : NetsAt NC H ps) (s : Same H H') : NetsAt NC H' ps := fun x hx => ⟨(h x hx).1.same s, (h x hx).2⟩
def refsP (ps : Prs) : List V := ps.map fun x => V.ref x.1
def netsP (ps : Prs) : List LNet := ps.map (·.2)
def spNets (NC : Addr) (f : List LNet → LNet) : Sp := fun vs H Q _ => ∃ (l : Addr) (ps : Prs), vs = [.ref l] ∧ H l = some (.lst (refsP ps)) ∧ NetsAt NC H ps ∧ charsOf (netsP ps) ≤ 500 ∧ GivesNet NC H Q (f (netsP ps))
abbrev netF (c f d : Addr) (e : Nat) : List (Str × V) := [("chars", .ref c), ("follow", .ref f), ("exits", .int (e : Nat)), ("stands_for", .ref d)]
theorem lk_ne {f g : Str} {v : V} {r : List (Str × V)} (h : (f == g) = false) : ((g, v) :: r).lookup f = r.lookup f := by
  rw [List.lookup, h]
theorem lk_hit {f : Str} {v : V} {r : List (Str × V)} : ((f, v) :: r).lookup f = some v := by
  rw [List.lookup, beq_self_eq_true]
theorem lkC {c f d : Addr} {e : Nat} : (netF c f d e).lookup ("chars" : Str) = some (.ref c) := lk_hit
theorem lkF {c f d : Addr} {e : Nat} : (netF c f d e).lookup ("follow" : Str) = some (.ref f) := (lk_ne (by decide +kernel)).trans lk_hit
theorem lkE {c f d : Addr} {e : Nat} : (netF c f d e).lookup ("exits" : Str) = some (.int (e : Nat)) := (lk_ne (by decide +kernel)).trans ((lk_ne (by decide +kernel)).trans lk_hit)
theorem fold_take {α β : Type} (f : β → α → β) (b : β) (xs : List α) {i : Nat} {x : α} (h : xs[i]? = some x) : (xs.take (i + 1)).foldl f b = f ((xs.take i).foldl f b) x := by
  rw [List.take_add_one, h, List.foldl_append]
  rfl
theorem charsOf_take (ns : List LNet) (i : Nat) : charsOf (ns.take i) ≤ charsOf ns := by
  have e : charsOf ns = charsOf (ns.take i) + charsOf (ns.drop i) := by
    unfold charsOf
    rw [← List.sum_append, ← List.map_append, List.take_append_drop]
  omega
theorem charsOf_succ (ns : List LNet) {i : Nat} {n : LNet} (h : ns[i]? = some n) : charsOf (ns.take (i + 1)) = charsOf (ns.take i) + n.chars.length := by
  unfold charsOf
  rw [List.take_add_one, h, List.map_append, List.sum_append]
  simp
section
variable {P : Program} {w : World} {K : PySem.W.Frag} {mg : Str → Option Value} {base : Heap} {NC : Addr}
abbrev rOrN : R2 := fun x y H Q => ∃ n m : Nat, x = .int n ∧ y = .int m ∧ Q (.int ((n ||| m : Nat) : Int)) H
set_option maxHeartbeats 20000000 in
theorem ok_chained {k : Nat} {f : Addr} {fd : FuncData} (F : FnP K "chained" "chained" s_chained f fd) (N : Nms mg) (gS : ∃ t, mg "START" = some (.int 1 t)) (T : NetC K NC) (R : Can P w K mg base CX0 "renumbered" ["places", "shift"] 1 spRen) (M : CanNet P w K mg base NC k) : FnOk P w K mg base CX0 (k + 2) f fd ["nets"] (spNets NC chainL) := by
  obtain ⟨tS, gS⟩ := gS
  obtain ⟨fR, fdR, GR, gR, kR, bR⟩ := R
  obtain ⟨fM, fdM, MM, gM, bM, GM⟩ := M
  have nd := sc_chained.nd
  refine F.ok sc_chained (fun vs H Q E h => ?_) (fun cdv A outer s H vs Q E hr h => ?_)
  · obtain ⟨l, ps, rfl, _⟩ := h
    rfl
  · obtain ⟨l, ps, rfl, hl, hn, hc, q⟩ := h
    have r1 := hr.mono (show 1 ≤ k + 1 by omega)
    refine ⟨_, PSs.nox (pss_cons (ps_set (i := 1) nd rfl (by first | exact .inl rfl | exact .inr rfl) (pe_lst pa_nil))
      (pss_cons (ps_set (i := 2) nd rfl (by first | exact .inl rfl | exact .inr rfl) (pe_lst (pa_cons pe_int pa_nil)))
      (pss_cons (ps_set (i := 3) nd rfl (by first | exact .inl rfl | exact .inr rfl) (pe_glob (v := .int 1) (by rfl) gS ⟨_, rfl⟩))
      (pss_cons (ps_for PassesOwn.never rfl (pi_list (pv 0)) (pg_name (i := 4) nd rfl (by first | exact .inl rfl | exact .inr rfl))
        (pss_cons (ps_set (i := 5) nd rfl (by first | exact .inl rfl | exact .inr rfl) (pe_callB call_len_seq (by rfl) N.len PySem.boot_len (pa_cons (pv 1) pa_nil)))
        (pss_cons (ps_set (i := 6) nd rfl (by first | exact .inl rfl | exact .inr rfl) (pe_call GR r1 (by rfl) gR kR bR .nil pass0 (pa_cons (pe_ix ix_list (pe_fld (pv 4) rfl) pe_int (fun _ _ => rfl)) (pa_cons (pv 5) pa_nil))))
        (pss_cons (ps_setLc (i := 2) (own := [("at", 7), ("ways", 8)]) (g := gTup K 2 (gCons (gName 7) (gCons (gName 8) gNil))) (tt := tYes) rfl nd rfl rfl rfl (pi_enum (by rfl) N.enumerate (pa_cons (pv 2) pa_nil)) (blkOk_by (N := ["nets", "chars", "follow", "exits", "net", "shift", "first", "at", "ways", "earlier"]) (sc := defScope s_chained) (by decide +kernel))
            (fun _ _ _ _ _ => pg_tup rfl (pgs_cons (pg_name (i := 7) nd rfl (Or.inl rfl) (Or.inr rfl)) (pgs_cons (pg_name (i := 8) nd rfl (Or.inl rfl) (Or.inr rfl)) pgs_nil))) (fun _ _ _ _ _ => pts_nil)
            (fun _ _ _ _ _ => pe_ifExp (pt_int (pe_op op_andNat (pe_op op_shrNat (pv 3) (pv 7)) pe_int)) (pe_op op_orNat (pv 8) (pv 6)) (pv 8)))
        (pss_cons (ps_set (i := 2) nd rfl (by first | exact .inl rfl | exact .inr rfl) (pe_op op_cat (pv 2) (pe_lc (own := [("ways", 8)]) (g := gName 8) (tt := tYes) rfl nd (pi_list (pe_slice sl_list (pe_fld (pv 4) rfl) (po_some pe_int) po_none)) (blkOk_by (N := ["nets", "chars", "follow", "exits", "net", "shift", "first", "at", "ways", "earlier"]) (sc := defScope s_chained) (by decide +kernel))
            (fun _ _ _ _ _ => pg_name (i := 8) nd rfl (Or.inl rfl)) (fun _ _ _ _ _ => pts_nil) (fun _ _ _ _ _ => pe_call GR r1 (by rfl) gR kR bR .nil pass0 (pa_cons (pv 8) (pa_cons (pv 5) pa_nil))))))
        (pss_cons (ps_set (i := 9) nd rfl (by first | exact .inl rfl | exact .inr rfl) (pe_ifExp (pt_int (pe_op op_andNat (pe_fld (pv 4) rfl) (pe_glob (v := .int 1) (by rfl) gS ⟨_, rfl⟩))) (pv 3) pe_int))
        (pss_cons (ps_set (i := 3) nd rfl (by first | exact .inl rfl | exact .inr rfl) (pe_op op_orNat (pe_call GR r1 (by rfl) gR kR bR .nil pass0 (pa_cons (pe_op op_andEven (pe_fld (pv 4) rfl) (pe_un un_inv (pe_glob (v := .int 1) (by rfl) gS ⟨_, rfl⟩))) (pa_cons (pv 5) pa_nil))) (pv 9)))
        (pss_one (ps_set (i := 1) nd rfl (by first | exact .inl rfl | exact .inr rfl) (pe_op op_cat (pv 1) (pe_fld (pv 4) rfl)))))))))))
      (pss_one (ps_ret (pe_make MM GM hr (by rfl) gM bM .nil pass0 (pa_cons (pv 1) (pa_cons (pv 2) (pa_cons (pv 3) pa_nil)))))))))), ?_⟩
    refine ⟨Nat.zero_le _, fun c hcn => ?_⟩
    have sc := same_new (o := .lst []) hcn
    refine ⟨line_small (by show 1 ≤ 16777216; decide), fun fo hfo => ?_⟩
    have sf := same_new (o := .lst [.int 0]) hfo
    refine ⟨_, rfl, l, rfl, ⟨_, SqL.of ((sc.trans sf) _ _ hl)⟩, ?_⟩
    refine for_list (xs := refsP ps) (fun i σ H' => ∃ (acc : LNet) (c fo : Addr) (x4 x5 x6 x7 x8 x9 : Option V), acc = ((netsP ps).take i).foldl chainStep chain0 ∧ acc.Ok ∧ acc.chars.length = charsOf ((netsP ps).take i) ∧
      σ = [some (.ref l), some (.ref c), some (.ref fo), some (.int (acc.exits : Nat)), x4, x5, x6, x7, x8, x9] ∧ H' c = some (.lst (strsV acc.chars)) ∧ H' fo = some (.lst (intsV acc.follow)) ∧ Same H H' ∧ H c = none ∧ H fo = none) ?_ ?_ ?_ ?_
    · exact ⟨chain0, c, fo, none, none, none, none, none, none, rfl, chain0_ok, rfl, rfl, sf _ _ upd_same, upd_same, sc.trans sf, hcn, sc.free hfo⟩
    · rintro i σ H' _ ⟨_, _, _, _, _, _, _, _, _, _, _, _, _, _, _, sm, _⟩
      exact SqL.of (sm _ _ hl)
    · rintro i x σ H1 hx ⟨acc, c, fo, x4, x5, x6, x7, x8, x9, ea, ok, len, rfl, hc1, hf1, sm, _, _⟩
      obtain ⟨p, hp, rfl⟩ : ∃ p, ps[i]? = some p ∧ x = .ref p.1 := by
        unfold refsP at hx
        rw [List.getElem?_map] at hx
        cases e : ps[i]? with
        | none =>
          rw [e] at hx
          cases hx
        | some p =>
          rw [e] at hx
          exact ⟨p, rfl, (Option.some.inj hx).symm⟩
      have mem : p ∈ ps := List.mem_of_getElem? hp
      obtain ⟨nat, nok⟩ := hn p mem
      have hnp : (netsP ps)[i]? = some p.2 := by
        unfold netsP
        rw [List.getElem?_map, hp]
        rfl
      have tot := charsOf_succ (netsP ps) hnp
      have le := charsOf_take (netsP ps) (i + 1)
      have small : acc.chars.length + p.2.chars.length ≤ 500 := by omega
      obtain ⟨a1, a2, a3, a4, a5⟩ := id ok
      obtain ⟨n1, n2, n3, n4, n5⟩ := id nok
      have nat1 := nat.same sm
      obtain ⟨dx, pc, pf, pd, q1, q2, q3, q4⟩ := nat1
      have wd : ∀ {x k : Nat}, k ≤ 1002 → x < 2 ^ k → x < 2 ^ 2000 := fun {x k} hk h => lt_mono h (by omega)
      have lenV : (strsV acc.chars).length = acc.chars.length := List.length_map _
      refine name_go ?_
      dsimp only
      refine seq_go (asg_go ?_)
      refine ⟨_, rfl, c, _, rfl, .inl (SqL.of hc1), ?_⟩
      rw [lenV]
      refine name_go ?_
      dsimp only
      refine seq_go (asg_go ?_)
      have g0 : atI (intsV p.2.follow) 0 = some (.int (p.2.follow.getD 0 0 : Nat)) := atI_nat (j := 0) (intsV_get (by omega))
      refine ⟨_, rfl, p.1, NC, dx, _, _, rfl, q1, T.cl, T.n2, lkF, pf, _, 0, _, rfl, rfl, SqL.of q3, g0, _, rfl, p.2.follow.getD 0 0, acc.chars.length, rfl, wd (k := p.2.chars.length + 1) (by omega) (getD_lt n3), by omega, ?_⟩
      generalize hfirst : ren (p.2.follow.getD 0 0) acc.chars.length = first
      refine name_go ?_
      dsimp only
      refine seq_go (asg_go ?_)
      -- the ways so far
      refine ⟨_, rfl, fo, _, rfl, SqL.of hf1, fun D hD => ?_⟩
      have lenF : (intsV acc.follow).length = acc.follow.length := intsV_len _
      have sD := same_new (o := .lst []) hD
      refine lc_it (n := acc.follow.length) (by rw [← lenF]; exact walk_enum) (fun j H' => H' D = some (.lst (intsV ((joinF acc.follow acc.exits first).take j))) ∧ Same H1 H') ⟨upd_same, sD⟩ (fun j H' _ h => SqL.of (h.2 _ _ hf1)) ?_ ?_
      · rintro j x H2 H3 hj ⟨e2, s2⟩ ⟨T3, y, z, rfl, hT, rfl, hy, hz⟩
        have ey : y = .int (j : Nat) := (Option.some.inj hy).symm
        have ez : z = .int (acc.follow.getD j 0 : Nat) := by
          have hz2 : (intsV acc.follow)[j]? = some z := hz
          rw [intsV_get hj] at hz2
          exact (Option.some.inj hz2).symm
        subst ey ez
        have sT := same_new (o := .tup [.int (j : Nat), .int (acc.follow.getD j 0 : Nat)]) hT
        refine ⟨T3, _, rfl, SqT.of upd_same, rfl, _, _, rfl, _, _, rfl, rfl, rfl, yes_keep ?_⟩
        refine ⟨_, rfl, _, rfl, acc.exits, j, rfl, rfl, acc.exits >>> j, 1, rfl, rfl, _, rfl, ?_⟩
        have nx : ∀ v : Nat, v = (joinF acc.follow acc.exits first).getD j 0 → ∃ ac, upd H2 T3 (.tup [.int (j : Nat), .int (acc.follow.getD j 0 : Nat)]) D = some (.lst ac) ∧ ac.length < sizeLine ∧
            upd (upd H2 T3 (.tup [.int (j : Nat), .int (acc.follow.getD j 0 : Nat)])) D (.lst (ac ++ [.int (v : Nat)])) D = some (.lst (intsV ((joinF acc.follow acc.exits first).take (j + 1)))) ∧ Same H1 (upd (upd H2 T3 (.tup [.int (j : Nat), .int (acc.follow.getD j 0 : Nat)])) D (.lst (ac ++ [.int (v : Nat)]))) := fun v ev => by
          have lj : (joinF acc.follow acc.exits first).length = acc.follow.length := by unfold joinF; simp
          refine ⟨_, sT _ _ e2, ?_, ?_, fun b o zb => ?_⟩
          · rw [intsV_len, List.length_take]
            exact small1000 (by omega)
          · rw [upd_same, List.take_add_one, List.getElem?_eq_getElem (by omega), ← intsV_app]
            rw [List.getD_eq_getElem?_getD, List.getElem?_eq_getElem (by omega)] at ev
            rw [ev]
            rfl
          · rw [upd_ne (ne_of_none zb hD)]
            exact sT _ _ (s2 _ _ zb)
        have jv : (joinF acc.follow acc.exits first).getD j 0 = if (acc.exits >>> j) &&& 1 = 0 then acc.follow.getD j 0 else acc.follow.getD j 0 ||| first := by
          unfold joinF
          rw [List.getD_eq_getElem?_getD, List.getElem?_map, List.getElem?_range hj]
          rfl
        by_cases hb : (acc.exits >>> j) &&& 1 = 0
        · rw [hb]
          refine iteF ?_
          exact ⟨_, rfl, nx _ (by rw [jv, if_pos hb])⟩
        · have hb1 : (((acc.exits >>> j &&& 1 : Nat) : Int) != 0) = true := by
            simp only [bne_iff_ne, ne_eq]
            omega
          refine (if_pos hb1).mpr ?_
          exact ⟨_, rfl, _, rfl, _, _, rfl, rfl, nx _ (by rw [jv, if_neg hb])⟩
      · rintro H2 ⟨e2, s2⟩
        have lj : (joinF acc.follow acc.exits first).length = acc.follow.length := by unfold joinF; simp
        rw [List.take_of_length_le (by omega)] at e2
        refine name_go ?_
        dsimp only
        refine seq_go (asg_go ?_)
        -- the rest of the net
        refine ⟨_, rfl, _, rfl, p.1, NC, dx, _, _, rfl, s2 _ _ q1, T.cl, T.n2, lkF, 1, rfl, pf, _, rfl, SqL.of (s2 _ _ q3), fun sl hsl => ?_⟩
        rw [cut_one, intsV_drop]
        have s3 := s2.trans (same_new (o := .lst (intsV (p.2.follow.drop 1))) hsl)
        have e3 := (same_new (o := .lst (intsV (p.2.follow.drop 1))) hsl) _ _ e2
        refine ⟨sl, rfl, ⟨_, SqL.of upd_same⟩, fun D2 hD2 => ?_⟩
        have sD2 := same_new (o := .lst []) hD2
        refine lc_it (n := (p.2.follow.drop 1).length) (by rw [← intsV_len (p.2.follow.drop 1)]; exact walk_list) (fun j H' => H' D2 = some (.lst (intsV (((p.2.follow.drop 1).take j).map fun x => ren x acc.chars.length))) ∧ Same (upd H2 sl (.lst (intsV (p.2.follow.drop 1)))) H') ⟨upd_same, sD2⟩ (fun j H' _ h => SqL.of (h.2 _ _ upd_same)) ?_ ?_
        · rintro j x H3 _ hj ⟨e4, s4⟩ ⟨rfl, hx2⟩
          rw [intsV_get hj] at hx2
          have ex := (Option.some.inj hx2).symm
          subst ex
          refine ⟨rfl, yes_keep ?_⟩
          refine ⟨_, rfl, _, rfl, _, acc.chars.length, rfl, wd (k := p.2.chars.length + 1) (by omega) (getD_lt fun x hx => n3 x (List.mem_of_mem_drop hx)), by omega, _, e4, ?_, ?_, fun b o zb => ?_⟩
          · rw [intsV_len, List.length_map, List.length_take]
            have h9 : (p.2.follow.drop 1).length = p.2.follow.length - 1 := List.length_drop
            exact small1000 (by omega)
          · rw [upd_same, List.take_add_one, List.getElem?_eq_getElem hj, List.map_append, ← intsV_app, List.getD_eq_getElem?_getD, List.getElem?_eq_getElem hj]
            rfl
          · rw [upd_ne (ne_of_none zb hD2)]
            exact s4 _ _ zb
        · rintro H3 ⟨e4, s4⟩
          rw [List.take_of_length_le (Nat.le_refl _)] at e4
          have h9 : (p.2.follow.drop 1).length = p.2.follow.length - 1 := List.length_drop
          have s5 : Same H1 H3 := s3.trans s4
          refine ⟨D, D2, _, _, rfl, rfl, s4 _ _ e3, e4, ?_, fun fo2 hfo2 => ?_⟩
          · rw [intsV_len, intsV_len, List.length_map, lj]
            exact line_small (by omega)
          rw [intsV_app]
          have ef2 : joinF acc.follow acc.exits first ++ (p.2.follow.drop 1).map (fun x => ren x acc.chars.length) = (chainStep acc p.2).follow := by
            unfold chainStep
            rw [hfirst]
          rw [ef2]
          have s6 := s5.trans (same_new (o := .lst (intsV (chainStep acc p.2).follow)) hfo2)
          refine name_go ?_
          dsimp only
          refine seq_go (asg_go ?_)
          refine te_go (.int ((if p.2.exits &&& 1 = 0 then 0 else acc.exits : Nat) : Int)) (fun Q' zq => ?_) ?_
          · refine ⟨_, rfl, p.1, NC, dx, _, _, rfl, s6 _ _ q1, T.cl, T.n3, lkE, p.2.exits, 1, rfl, rfl, _, rfl, ?_⟩
            by_cases hb : p.2.exits &&& 1 = 0
            · rw [if_pos hb] at zq
              rw [hb]
              exact iteF zq
            · rw [if_neg hb] at zq
              have hb1 : (((p.2.exits &&& 1 : Nat) : Int) != 0) = true := by
                simp only [bne_iff_ne, ne_eq]
                omega
              refine (if_pos hb1).mpr ?_
              exact ⟨_, rfl, zq⟩
          refine name_go ?_
          dsimp only
          refine seq_go (asg_go ?_)
          refine ⟨_, rfl, p.1, NC, dx, _, _, rfl, s6 _ _ q1, T.cl, T.n3, lkE, 1, rfl, p.2.exits, rfl, rfl, _, rfl, p.2.exits / 2 * 2, acc.chars.length, rfl, wd (k := p.2.chars.length + 1) (by omega) (by omega), by omega, _, rfl, _, _, rfl, rfl, ?_⟩
          refine name_go ?_
          dsimp only
          refine asg_go ?_
          refine ⟨_, rfl, _, rfl, p.1, NC, dx, _, _, rfl, s6 _ _ q1, T.cl, T.n1, lkC, c, pc, _, _, rfl, rfl, s6 _ _ hc1, s6 _ _ q2, ?_, fun c2 hc2 => ?_⟩
          · show (strsV acc.chars).length + (strsV p.2.chars).length ≤ sizeLine
            unfold strsV
            rw [List.length_map, List.length_map]
            exact line_small (by omega)
          have ec2 : strsV acc.chars ++ strsV p.2.chars = strsV (chainStep acc p.2).chars := by
            unfold strsV chainStep
            rw [List.map_append]
          rw [ec2]
          have s7 := same_new (o := .lst (strsV (chainStep acc p.2).chars)) hc2
          refine ⟨chainStep acc p.2, c2, fo2, _, _, _, _, _, _, ?_, chainStep_ok ok nok (by omega), ?_, rfl, upd_same, s7 _ _ upd_same, (sm.trans s6).trans s7, (sm.trans s6).free hc2, (sm.trans s5).free hfo2⟩
          · rw [fold_take chainStep chain0 (netsP ps) hnp, ← ea]
          · unfold chainStep
            rw [List.length_append]
            omega
    · rintro σ H1 ⟨acc, c, fo, x4, x5, x6, x7, x8, x9, ea, ok, len, rfl, hc1, hf1, sm, z1, z2⟩
      have lr : (refsP ps).length = (netsP ps).length := by unfold refsP netsP; rw [List.length_map, List.length_map]
      rw [lr, List.take_of_length_le (Nat.le_refl _)] at ea
      refine ⟨_, rfl, _, rfl, _, rfl, ?_⟩
      subst ea
      exact make_net (n := chainL (netsP ps)) ok hc1 hf1 fun r H' s2 hr0 at_ => q r c fo H' (sm.trans s2) (sm.free hr0) z1 z2 (at_.of sm)
end
end K06

set_option autoImplicit false
set_option maxErrors 4
namespace K06
open PySem PySem.Spec PyProof.Rows L2 Tl
/-! ### nets side by side -/
def sideStep (a n : LNet) : LNet :=
  ⟨a.chars ++ n.chars, (a.follow.getD 0 0 ||| ren (n.follow.getD 0 0) a.chars.length) :: (a.follow.drop 1 ++ (n.follow.drop 1).map fun x => ren x a.chars.length), a.exits ||| ren n.exits a.chars.length⟩
def side0 : LNet := ⟨[], [0], 0⟩
def sideL (ns : List LNet) : LNet := ns.foldl sideStep side0
theorem side0_ok : side0.Ok := ⟨rfl, Nat.zero_le _, fun x hx => by rw [List.mem_singleton.mp hx]; decide, by decide, fun s h => by cases h⟩
theorem sideStep_ok {a n : LNet} (ha : a.Ok) (hn : n.Ok) (small : a.chars.length + n.chars.length ≤ 1000) : (sideStep a n).Ok := by
  obtain ⟨a1, a2, a3, a4, a5⟩ := ha
  obtain ⟨n1, n2, n3, n4, n5⟩ := hn
  have up : ∀ {x : Nat}, x < 2 ^ (n.chars.length + 1) → ren x a.chars.length < 2 ^ (a.chars.length + n.chars.length + 1) := fun {x} h => by
    have z := ren_lt (s := a.chars.length) h
    rw [show n.chars.length + a.chars.length + 1 = a.chars.length + n.chars.length + 1 by omega] at z
    exact z
  have wd : ∀ {x : Nat}, x < 2 ^ (a.chars.length + 1) → x < 2 ^ (a.chars.length + n.chars.length + 1) := fun {x} h => lt_mono h (by omega)
  unfold LNet.Ok sideStep
  simp only [List.length_append, List.length_map, List.length_cons, List.length_drop]
  refine ⟨by omega, small, fun x hx => ?_, or_lt (wd a4) (up n4), fun s h => (List.mem_append.mp h).elim (a5 s) (n5 s)⟩
  rcases List.mem_cons.mp hx with rfl | hx
  · exact or_lt (wd (getD_lt a3)) (up (getD_lt n3))
  · rcases List.mem_append.mp hx with hx | hx
    · exact wd (a3 x (List.mem_of_mem_drop hx))
    · obtain ⟨y, hy, rfl⟩ := List.mem_map.mp hx
      exact up (n3 y (List.mem_of_mem_drop hy))
section
variable {P : Program} {w : World} {K : PySem.W.Frag} {mg : Str → Option Value} {base : Heap} {NC : Addr}
set_option maxHeartbeats 20000000 in
theorem ok_side {k : Nat} {f : Addr} {fd : FuncData} (F : FnP K "side_by_side" "side_by_side" s_side_by_side f fd) (N : Nms mg) (T : NetC K NC) (R : Can P w K mg base CX0 "renumbered" ["places", "shift"] 1 spRen) (M : CanNet P w K mg base NC k) : FnOk P w K mg base CX0 (k + 2) f fd ["nets"] (spNets NC sideL) := by
  obtain ⟨fR, fdR, GR, gR, kR, bR⟩ := R
  obtain ⟨fM, fdM, MM, gM, bM, GM⟩ := M
  have nd := sc_side_by_side.nd
  refine F.ok sc_side_by_side (fun vs H Q E h => ?_) (fun cdv A outer s H vs Q E hr h => ?_)
  · obtain ⟨l, ps, rfl, _⟩ := h
    rfl
  · obtain ⟨l, ps, rfl, hl, hn, hc, q⟩ := h
    have r1 := hr.mono (show 1 ≤ k + 1 by omega)
    refine ⟨_, PSs.nox (pss_cons (ps_set (i := 1) nd rfl (by first | exact .inl rfl | exact .inr rfl) (pe_lst pa_nil))
      (pss_cons (ps_set (i := 2) nd rfl (by first | exact .inl rfl | exact .inr rfl) pe_int)
      (pss_cons (ps_set (i := 3) nd rfl (by first | exact .inl rfl | exact .inr rfl) (pe_lst pa_nil))
      (pss_cons (ps_set (i := 4) nd rfl (by first | exact .inl rfl | exact .inr rfl) pe_int)
      (pss_cons (ps_for PassesOwn.never rfl (pi_list (pv 0)) (pg_name (i := 5) nd rfl (by first | exact .inl rfl | exact .inr rfl))
        (pss_cons (ps_set (i := 6) nd rfl (by first | exact .inl rfl | exact .inr rfl) (pe_callB call_len_seq (by rfl) N.len PySem.boot_len (pa_cons (pv 1) pa_nil)))
        (pss_cons (ps_set (i := 2) nd rfl (by first | exact .inl rfl | exact .inr rfl) (pe_op op_orNat (pv 2) (pe_call GR r1 (by rfl) gR kR bR .nil pass0 (pa_cons (pe_ix ix_list (pe_fld (pv 5) rfl) pe_int (fun _ _ => rfl)) (pa_cons (pv 6) pa_nil)))))
        (pss_cons (ps_set (i := 3) nd rfl (by first | exact .inl rfl | exact .inr rfl) (pe_op op_cat (pv 3) (pe_lc (own := [("ways", 7)]) (g := gName 7) (tt := tYes) rfl nd (pi_list (pe_slice sl_list (pe_fld (pv 5) rfl) (po_some pe_int) po_none)) (blkOk_by (N := ["nets", "chars", "first", "follow", "exits", "net", "shift", "ways"]) (sc := defScope s_side_by_side) (by decide +kernel))
            (fun _ _ _ _ _ => pg_name (i := 7) nd rfl (Or.inl rfl)) (fun _ _ _ _ _ => pts_nil) (fun _ _ _ _ _ => pe_call GR r1 (by rfl) gR kR bR .nil pass0 (pa_cons (pv 7) (pa_cons (pv 6) pa_nil))))))
        (pss_cons (ps_set (i := 4) nd rfl (by first | exact .inl rfl | exact .inr rfl) (pe_op op_orNat (pv 4) (pe_call GR r1 (by rfl) gR kR bR .nil pass0 (pa_cons (pe_fld (pv 5) rfl) (pa_cons (pv 6) pa_nil)))))
        (pss_one (ps_set (i := 1) nd rfl (by first | exact .inl rfl | exact .inr rfl) (pe_op op_cat (pv 1) (pe_fld (pv 5) rfl)))))))))
      (pss_one (ps_ret (pe_make MM GM hr (by rfl) gM bM .nil pass0 (pa_cons (pv 1) (pa_cons (pe_op op_cat (pe_lst (pa_cons (pv 2) pa_nil)) (pv 3)) (pa_cons (pv 4) pa_nil))))))))))), ?_⟩
    refine ⟨Nat.zero_le _, fun c hcn => ?_⟩
    have sc := same_new (o := .lst []) hcn
    refine ⟨Nat.zero_le _, fun fo hfo => ?_⟩
    have sf := same_new (o := .lst []) hfo
    refine ⟨_, rfl, l, rfl, ⟨_, SqL.of ((sc.trans sf) _ _ hl)⟩, ?_⟩
    refine for_list (xs := refsP ps) (fun i σ H' => ∃ (acc : LNet) (c fo : Addr) (x5 x6 x7 : Option V), acc = ((netsP ps).take i).foldl sideStep side0 ∧ acc.Ok ∧ acc.chars.length = charsOf ((netsP ps).take i) ∧
      σ = [some (.ref l), some (.ref c), some (.int (acc.follow.getD 0 0 : Nat)), some (.ref fo), some (.int (acc.exits : Nat)), x5, x6, x7] ∧ H' c = some (.lst (strsV acc.chars)) ∧ H' fo = some (.lst (intsV (acc.follow.drop 1))) ∧ Same H H' ∧ H c = none) ?_ ?_ ?_ ?_
    · exact ⟨side0, c, fo, none, none, none, rfl, side0_ok, rfl, rfl, sf _ _ upd_same, upd_same, sc.trans sf, hcn⟩
    · rintro i σ H' _ ⟨_, _, _, _, _, _, _, _, _, _, _, _, sm, _⟩
      exact SqL.of (sm _ _ hl)
    · rintro i x σ H1 hx ⟨acc, c, fo, x5, x6, x7, ea, ok, len, rfl, hc1, hf1, sm, _⟩
      obtain ⟨p, hp, rfl⟩ : ∃ p, ps[i]? = some p ∧ x = .ref p.1 := by
        unfold refsP at hx
        rw [List.getElem?_map] at hx
        cases e : ps[i]? with
        | none =>
          rw [e] at hx
          cases hx
        | some p =>
          rw [e] at hx
          exact ⟨p, rfl, (Option.some.inj hx).symm⟩
      have mem : p ∈ ps := List.mem_of_getElem? hp
      obtain ⟨nat, nok⟩ := hn p mem
      have hnp : (netsP ps)[i]? = some p.2 := by
        unfold netsP
        rw [List.getElem?_map, hp]
        rfl
      have tot := charsOf_succ (netsP ps) hnp
      have le := charsOf_take (netsP ps) (i + 1)
      have small : acc.chars.length + p.2.chars.length ≤ 500 := by omega
      obtain ⟨a1, a2, a3, a4, a5⟩ := id ok
      obtain ⟨n1, n2, n3, n4, n5⟩ := id nok
      have nat1 := nat.same sm
      obtain ⟨dx, pc, pf, pd, q1, q2, q3, q4⟩ := nat1
      have wd : ∀ {x k : Nat}, k ≤ 1002 → x < 2 ^ k → x < 2 ^ 2000 := fun {x k} hk h => lt_mono h (by omega)
      have lenV : (strsV acc.chars).length = acc.chars.length := List.length_map _
      refine name_go ?_
      dsimp only
      refine seq_go (asg_go ?_)
      refine ⟨_, rfl, c, _, rfl, .inl (SqL.of hc1), ?_⟩
      rw [lenV]
      refine name_go ?_
      dsimp only
      refine seq_go (asg_go ?_)
      have g0 : atI (intsV p.2.follow) 0 = some (.int (p.2.follow.getD 0 0 : Nat)) := atI_nat (j := 0) (intsV_get (by omega))
      refine ⟨_, rfl, _, rfl, p.1, NC, dx, _, _, rfl, q1, T.cl, T.n2, lkF, pf, _, 0, _, rfl, rfl, SqL.of q3, g0, _, rfl, p.2.follow.getD 0 0, acc.chars.length, rfl, wd (k := p.2.chars.length + 1) (by omega) (getD_lt n3), by omega, _, _, rfl, rfl, ?_⟩
      refine name_go ?_
      dsimp only
      refine seq_go (asg_go ?_)
      have s2 := Same.refl H1
      refine ⟨_, rfl, _, rfl, p.1, NC, dx, _, _, rfl, q1, T.cl, T.n2, lkF, 1, rfl, pf, _, rfl, SqL.of q3, fun sl hsl => ?_⟩
      rw [cut_one, intsV_drop]
      have s3 := same_new (o := .lst (intsV (p.2.follow.drop 1))) hsl
      refine ⟨sl, rfl, ⟨_, SqL.of upd_same⟩, fun D2 hD2 => ?_⟩
      have sD2 := same_new (o := .lst []) hD2
      refine lc_it (n := (p.2.follow.drop 1).length) (by rw [← intsV_len (p.2.follow.drop 1)]; exact walk_list) (fun j H' => H' D2 = some (.lst (intsV (((p.2.follow.drop 1).take j).map fun x => ren x acc.chars.length))) ∧ Same (upd H1 sl (.lst (intsV (p.2.follow.drop 1)))) H') ⟨upd_same, sD2⟩ (fun j H' _ h => SqL.of (h.2 _ _ upd_same)) ?_ ?_
      · rintro j x H3 _ hj ⟨e4, s4⟩ ⟨rfl, hx2⟩
        rw [intsV_get hj] at hx2
        have ex := (Option.some.inj hx2).symm
        subst ex
        refine ⟨rfl, yes_keep ?_⟩
        refine ⟨_, rfl, _, rfl, _, acc.chars.length, rfl, wd (k := p.2.chars.length + 1) (by omega) (getD_lt fun x hx => n3 x (List.mem_of_mem_drop hx)), by omega, _, e4, ?_, ?_, fun b o zb => ?_⟩
        · rw [intsV_len, List.length_map, List.length_take]
          have h9 : (p.2.follow.drop 1).length = p.2.follow.length - 1 := List.length_drop
          exact small1000 (by omega)
        · rw [upd_same, List.take_add_one, List.getElem?_eq_getElem hj, List.map_append, ← intsV_app, List.getD_eq_getElem?_getD, List.getElem?_eq_getElem hj]
          rfl
        · rw [upd_ne (ne_of_none zb hD2)]
          exact s4 _ _ zb
      · rintro H3 ⟨e4, s4⟩
        rw [List.take_of_length_le (Nat.le_refl _)] at e4
        have h9 : (p.2.follow.drop 1).length = p.2.follow.length - 1 := List.length_drop
        have h8 : (acc.follow.drop 1).length = acc.follow.length - 1 := List.length_drop
        have s5 : Same H1 H3 := s3.trans s4
        refine ⟨fo, D2, _, _, rfl, rfl, s5 _ _ hf1, e4, ?_, fun fo2 hfo2 => ?_⟩
        · rw [intsV_len, intsV_len, List.length_map]
          exact line_small (by omega)
        rw [intsV_app]
        have ef2 : acc.follow.drop 1 ++ (p.2.follow.drop 1).map (fun x => ren x acc.chars.length) = (sideStep acc p.2).follow.drop 1 := rfl
        rw [ef2]
        have s6 := s5.trans (same_new (o := .lst (intsV ((sideStep acc p.2).follow.drop 1))) hfo2)
        refine name_go ?_
        dsimp only
        refine seq_go (asg_go ?_)
        refine ⟨_, rfl, _, rfl, p.1, NC, dx, _, _, rfl, s6 _ _ q1, T.cl, T.n3, lkE, _, rfl, p.2.exits, acc.chars.length, rfl, wd (k := p.2.chars.length + 1) (by omega) n4, by omega, _, _, rfl, rfl, ?_⟩
        refine name_go ?_
        dsimp only
        refine asg_go ?_
        refine ⟨_, rfl, _, rfl, p.1, NC, dx, _, _, rfl, s6 _ _ q1, T.cl, T.n1, lkC, c, pc, _, _, rfl, rfl, s6 _ _ hc1, s6 _ _ q2, ?_, fun c2 hc2 => ?_⟩
        · show (strsV acc.chars).length + (strsV p.2.chars).length ≤ sizeLine
          unfold strsV
          rw [List.length_map, List.length_map]
          exact line_small (by omega)
        have ec2 : strsV acc.chars ++ strsV p.2.chars = strsV (sideStep acc p.2).chars := by
          unfold strsV sideStep
          rw [List.map_append]
        rw [ec2]
        have s7 := same_new (o := .lst (strsV (sideStep acc p.2).chars)) hc2
        refine ⟨sideStep acc p.2, c2, fo2, _, _, _, ?_, sideStep_ok ok nok (by omega), ?_, rfl, upd_same, s7 _ _ upd_same, (sm.trans s6).trans s7, (sm.trans s6).free hc2⟩
        · rw [fold_take sideStep side0 (netsP ps) hnp, ← ea]
        · unfold sideStep
          rw [List.length_append]
          omega
    · rintro σ H1 ⟨acc, c, fo, x5, x6, x7, ea, ok, len, rfl, hc1, hf1, sm, z1⟩
      have lr : (refsP ps).length = (netsP ps).length := by unfold refsP netsP; rw [List.length_map, List.length_map]
      rw [lr, List.take_of_length_le (Nat.le_refl _)] at ea
      obtain ⟨a1, a2, a3, a4, a5⟩ := id ok
      refine ⟨_, rfl, _, rfl, line_small (by show 1 ≤ 16777216; decide), fun b hb => ?_⟩
      have sb := same_new (o := .lst [.int (acc.follow.getD 0 0 : Nat)]) hb
      have h8 : (acc.follow.drop 1).length = acc.follow.length - 1 := List.length_drop
      refine ⟨_, rfl, b, fo, _, _, rfl, rfl, upd_same, sb _ _ hf1, ?_, fun f2 hf2 => ?_⟩
      · rw [intsV_len]
        exact line_small (by show 1 + _ ≤ 16777216; omega)
      have ef : [V.int (acc.follow.getD 0 0 : Nat)] ++ intsV (acc.follow.drop 1) = intsV acc.follow := by
        cases e : acc.follow with
        | nil =>
          rw [e] at a1
          cases a1
        | cons x r => rfl
      rw [ef]
      have sf2 := same_new (o := .lst (intsV acc.follow)) hf2
      refine ⟨_, rfl, ?_⟩
      subst ea
      exact make_net (n := sideL (netsP ps)) ok (sf2 _ _ (sb _ _ hc1)) upd_same fun r H' s2 hr0 at_ => q r c f2 H' (((sm.trans sb).trans sf2).trans s2) (((sm.trans sb).trans sf2).free hr0) z1 ((sm.trans sb).free hf2) (at_.of ((sm.trans sb).trans sf2))
end
end K06

set_option autoImplicit false
set_option maxErrors 4
namespace K06
open PySem PySem.Spec PyProof.Rows L2 Tl
theorem addN_length (d : SN) (s : Str) (v : Nat) : (addN d s v).length ≤ d.length + 1 := putN_length _ _ _
theorem range_fold {β : Type} (f : β → Nat → β) (b : β) (n : Nat) : (List.range (n + 1)).foldl f b = f ((List.range n).foldl f b) n := by
  rw [List.range_succ, List.foldl_append]
  rfl
def byStT (cs : List Str) (i : Nat) : SN := (List.range i).foldl (fun d i => addN d (cs.getD i default) (1 <<< (1 + i))) []
theorem byStT_len (cs : List Str) : ∀ i, (byStT cs i).length ≤ i
  | 0 => Nat.le_refl _
  | i + 1 => by
    unfold byStT
    rw [range_fold]
    exact Nat.le_trans (addN_length _ _ _) (Nat.succ_le_succ (byStT_len cs i))
theorem bySt_eq (cs : List Str) : bySt cs = byStT cs cs.length := rfl
theorem spread_take (c : SN) (s : Str) (v : Nat) (j : Nat) (x : Nat) (h : s.cps[j]? = some x) : ((s.cps.toList.take (j + 1)).foldl (fun c n => addN c ⟨#[n]⟩ v) c) = addN ((s.cps.toList.take j).foldl (fun c n => addN c ⟨#[n]⟩ v) c) ⟨#[x]⟩ v := by
  rw [List.take_add_one, Array.getElem?_toList, h, List.foldl_append]
  rfl
theorem putN_keys {d : SN} {s : Str} {v : Nat} {p : Str × Nat} (h : p ∈ putN d s v) : p.1 = s ∨ ∃ x ∈ d, x.1 = p.1 := by
  unfold putN at h
  split at h
  · obtain ⟨x, hx, rfl⟩ := List.mem_map.mp h
    split
    · exact .inr ⟨x, hx, rfl⟩
    · exact .inr ⟨x, hx, rfl⟩
  · rcases List.mem_append.mp h with h | h
    · exact .inr ⟨p, h, rfl⟩
    · rw [List.mem_singleton.mp h]
      exact .inl rfl
theorem byStT_keys (cs : List Str) : ∀ i, i ≤ cs.length → ∀ p ∈ byStT cs i, p.1 ∈ cs
  | 0, _, p, h => by cases h
  | i + 1, hi, p, h => by
    unfold byStT at h
    rw [range_fold] at h
    rcases putN_keys h with e | ⟨x, hx, e⟩
    · rw [e, List.getD_eq_getElem?_getD, List.getElem?_eq_getElem (by omega)]
      exact List.getElem_mem _
    · rw [← e]
      exact byStT_keys cs i (by omega) x hx
section
variable {P : Program} {w : World} {K : PySem.W.Frag} {mg : Str → Option Value} {base : Heap} {NC : Addr}
def spPbc : Sp := fun vs H Q _ => ∃ (c : Addr) (cs : List Str), vs = [.ref c] ∧ H c = some (.lst (strsV cs)) ∧ cs.length ≤ 1000 ∧ (∀ s ∈ cs, s.cps.size ≤ 1000) ∧ ∀ d H', Same H H' → H d = none → H' d = some (.dK (standsFor cs)) → Q (.ref d) H'
set_option maxHeartbeats 20000000 in
theorem ok_pbc {f : Addr} {fd : FuncData} (F : FnP K "places_by_char" "places_by_char" s_places_by_char f fd) (N : Nms mg) : FnOk P w K mg base CX0 1 f fd ["chars"] spPbc := by
  have nd := sc_places_by_char.nd
  refine F.ok sc_places_by_char (fun vs H Q E h => ?_) (fun cdv A outer s H vs Q E hr h => ?_)
  · obtain ⟨c, cs, rfl, _⟩ := h
    rfl
  · obtain ⟨c, cs, rfl, hc, len, sz, q⟩ := h
    have hu : (A.deeper (envOfC "places_by_char" (defScope s_places_by_char) s.heap.objs.size f cdv)).units + 1 < cLine := by have := hr.un; omega
    refine ⟨_, PSs.nox (pss_cons (ps_set (i := 1) nd rfl (.inl rfl) pe_dnewK)
      (pss_cons (ps_for PassesOwn.never rfl (pi_enum (by rfl) N.enumerate (pa_cons (pv 0) pa_nil)) (pg_tup rfl (pgs_cons (pg_name (i := 2) nd rfl (.inl rfl) (.inr rfl)) (pgs_cons (pg_name (i := 3) nd rfl (.inl rfl) (.inr rfl)) pgs_nil)))
        (pss_one (ps_dput hu (pv 1) (pv 3) (pe_op op_orNat (pe_dget2 hu (pv 1) (pv 3) pe_int ⟨rfl, rfl, rfl, rfl⟩) (pe_op op_shlNat pe_int (pe_op op_addNat pe_int (pv 2)))) rfl)))
      (pss_cons (ps_set (i := 4) nd rfl (.inl rfl) pe_dnewK)
      (pss_cons (ps_lock (ps_for PassesOwn.never rfl (pi_items (pv 1)) (pg_tup rfl (pgs_cons (pg_name (i := 3) nd rfl (.inl rfl) (.inr rfl)) (pgs_cons (pg_name (i := 5) nd rfl (.inl rfl) (.inr rfl)) pgs_nil)))
        (pss_one (ps_for PassesOwn.never rfl (pi_str (pv 3)) (pg_name (i := 6) nd rfl (.inl rfl))
          (pss_one (ps_dput hu (pv 4) (pv 6) (pe_op op_orNat (pe_dget2 hu (pv 4) (pv 6) pe_int ⟨rfl, rfl, rfl, rfl⟩) (pv 5)) rfl))))))
      (pss_one (ps_ret (pv 4))))))), ?_⟩
    intro d hd
    have sd := same_new (o := .dK []) hd
    have wide : 1 < 2 ^ 4000 := Nat.lt_of_lt_of_le (show 1 < 2 ^ 1 by decide) (Nat.pow_le_pow_right (by decide) (by decide))
    have gv : ∀ (D : SN) (s : Str), (valV (kvsV D) (Sum.inr s)).getD (.int 0) = .int (((getN D s).getD 0 : Nat) : Int) := fun D s => by
      rw [kvsV_get]
      cases getN D s <;> rfl
    have lenV : (strsV cs).length = cs.length := List.length_map _
    have lenK : ∀ D : SN, (kvsV D).length = D.length := fun D => List.length_map _
    have getV : ∀ {j : Nat}, j < cs.length → (strsV cs)[j]? = some (.str (cs.getD j default)) := fun {j} hj => by
      unfold strsV
      rw [List.getElem?_map, List.getElem?_eq_getElem hj, List.getD_eq_getElem?_getD, List.getElem?_eq_getElem hj]
      rfl
    refine name_go ?_
    dsimp only
    refine seq_go ?_
    refine ⟨_, rfl, c, _, rfl, SqL.of (sd _ _ hc), ?_⟩
    refine for_it (n := cs.length) (by rw [← lenV]; exact walk_enum) (fun i σ H' => ∃ x2 x3 x4 x5 x6 : Option V, σ = [some (.ref c), some (.ref d), x2, x3, x4, x5, x6] ∧ H' d = some (.dK (kvsV (byStT cs i))) ∧ Same H H') ⟨none, none, none, none, none, rfl, upd_same, sd⟩ (fun i σ H' _ h => by
      obtain ⟨_, _, _, _, _, _, _, sm⟩ := h
      exact SqL.of (sm _ _ hc)) ?_ ?_
    · rintro i x σ H1 H2 hi ⟨x2, x3, x4, x5, x6, rfl, e, sm⟩ ⟨T3, y, z, rfl, hT, rfl, hy, hz⟩
      have ey : y = .int (i : Nat) := (Option.some.inj hy).symm
      have ez : z = .str (cs.getD i default) := by
        have hz2 : (strsV cs)[i]? = some z := hz
        rw [getV hi] at hz2
        exact (Option.some.inj hz2).symm
      subst ey ez
      have sT := same_new (o := .tup [.int (i : Nat), .str (cs.getD i default)]) hT
      have e1 := sT _ _ e
      refine ⟨T3, _, rfl, SqT.of upd_same, rfl, _, _, rfl, _, _, rfl, rfl, ?_⟩
      refine ⟨_, rfl, d, rfl, .inl ⟨_, .inl e1⟩, _, rfl, _, DGet.k (k := Sum.inr (cs.getD i default)) e1, ?_⟩
      rw [gv]
      refine ⟨_, rfl, 1, i, rfl, rfl, 1, 1 + i, rfl, rfl, wide, by omega, _, _, rfl, rfl, ?_⟩
      refine ⟨_, rfl, _, rfl, d, _, rfl, DPut.k (k := Sum.inr (cs.getD i default)) e1 ?_, ?_⟩
      · rw [lenK]
        exact small1000 (by have := byStT_len cs i; omega)
      rw [kvsV_put]
      refine ⟨_, _, _, _, _, rfl, ?_, fun b o zb => ?_⟩
      · rw [upd_same]
        unfold byStT
        rw [range_fold]
        rfl
      · have nb : b ≠ d := ne_of_none zb hd
        rw [upd_ne nb]
        exact sT _ _ (sm _ _ zb)
    · rintro σ H1 ⟨x2, x3, x4, x5, x6, rfl, e, sm⟩
      rw [← bySt_eq] at e
      have lb : (bySt cs).length ≤ 1000 := by
        rw [bySt_eq]
        exact Nat.le_trans (byStT_len cs _) len
      dsimp only
      refine seq_go (asg_go ?_)
      intro g hg
      have sg0 := same_new (o := .dK []) hg
      refine name_go ?_
      dsimp only
      have e2 := sg0 _ _ e
      have ngd : g ≠ d := fun z => by
        rw [z, e] at hg
        cases hg
      refine seq_go ⟨d, .dK (kvsV (bySt cs)), e2, True.intro, fun od => ?_⟩
      refine ⟨_, rfl, d, od, _, rfl, upd_same, ?_⟩
      have keys : ∀ p ∈ bySt cs, p.1.cps.size ≤ 1000 := fun p hp => sz _ (byStT_keys cs _ (Nat.le_refl _) p (by rw [← bySt_eq]; exact hp))
      generalize hbs : bySt cs = bs at e e2 lb keys
      have far : ∀ {b : Addr} {o : HO}, H b = some o → b ≠ d ∧ b ≠ g := fun {b o} zb => ⟨ne_of_none zb hd, ne_of_none (sm _ _ zb) hg⟩
      have lenB : (kvsV bs).length = bs.length := lenK _
      refine for_it (n := bs.length) (by rw [← lenB]; exact walk_items) (fun i σ H' => ∃ x2 x3 x5 x6 : Option V, σ = [some (.ref c), some (.ref d), x2, x3, some (.ref g), x5, x6] ∧ H' d = some (.frz od (.dK (kvsV bs))) ∧ H' g = some (.dK (kvsV ((bs.take i).foldl (fun c p => spread c p.1 p.2) []))) ∧
        ((bs.take i).foldl (fun c p => spread c p.1 p.2) ([] : SN)).length ≤ i * 1000 ∧ ∀ b o, H b = some o → H' b = some o) ⟨_, _, _, _, rfl, upd_same, by rw [upd_ne ngd, upd_same]; rfl, Nat.zero_le _, fun b o zb => by rw [upd_ne (far zb).1]; exact sg0 _ _ (sm _ _ zb)⟩ (fun i σ H' _ h => by
          obtain ⟨_, _, _, _, _, z, _⟩ := h
          exact z) ?_ ?_
      · rintro i x σ H2 H3 hi ⟨x2, x3, x5, x6, rfl, ed, eg, lg, kp⟩ ⟨T3, y, z, rfl, hT, rfl, hy, hz⟩
        have hp : (kvsV bs)[i]? = some (Sum.inr bs[i].1, .int (bs[i].2 : Nat)) := by
          unfold kvsV
          rw [List.getElem?_map, List.getElem?_eq_getElem hi]
          rfl
        have ey : y = .str bs[i].1 := by
          have hy2 : (kvsV bs)[i]?.map (fun kv => kV kv.1) = some y := hy
          rw [hp] at hy2
          exact (Option.some.inj hy2).symm
        have ez : z = .int (bs[i].2 : Nat) := by
          have hz2 : (kvsV bs)[i]?.map Prod.snd = some z := hz
          rw [hp] at hz2
          exact (Option.some.inj hz2).symm
        subst ey ez
        have sT := same_new (o := .tup [.str bs[i].1, .int (bs[i].2 : Nat)]) hT
        generalize hc0 : (bs.take i).foldl (fun c p => spread c p.1 p.2) ([] : SN) = c0 at eg lg
        have step : (bs.take (i + 1)).foldl (fun c p => spread c p.1 p.2) ([] : SN) = spread c0 bs[i].1 bs[i].2 := by
          rw [fold_take (fun c p => spread c p.1 p.2) [] bs (List.getElem?_eq_getElem hi), hc0]
        have sb : bs[i].1.cps.size ≤ 1000 := keys _ (List.getElem_mem _)
        refine ⟨T3, _, rfl, SqT.of upd_same, rfl, _, _, rfl, _, _, rfl, rfl, ?_⟩
        refine ⟨_, rfl, _, rfl, ?_⟩
        refine for_it (n := bs[i].1.cps.size) walk_str (fun j σ H' => ∃ x2 x6 : Option V, σ = [some (.ref c), some (.ref d), x2, some (.str bs[i].1), some (.ref g), some (.int (bs[i].2 : Nat)), x6] ∧ H' d = some (.frz od (.dK (kvsV bs))) ∧
          H' g = some (.dK (kvsV ((bs[i].1.cps.toList.take j).foldl (fun c n => addN c ⟨#[n]⟩ bs[i].2) c0))) ∧ ((bs[i].1.cps.toList.take j).foldl (fun c n => addN c ⟨#[n]⟩ bs[i].2) c0).length ≤ i * 1000 + j ∧ ∀ b o, H b = some o → H' b = some o)
          ⟨_, _, rfl, sT _ _ ed, sT _ _ eg, by simpa using lg, fun b o zb => sT _ _ (kp b o zb)⟩ (fun _ _ _ _ _ => True.intro) ?_ ?_
        · rintro j x σ H4 H5 hj ⟨y2, y6, rfl, fd4, fg4, lg4, kp4⟩ ⟨rfl, ch, hch, rfl⟩
          have ngd2 : g ≠ d := ngd
          refine ⟨_, rfl, g, rfl, .inl ⟨_, .inl fg4⟩, _, rfl, _, DGet.k (k := Sum.inr ⟨#[ch]⟩) fg4, ?_⟩
          rw [gv]
          refine ⟨_, rfl, _, _, rfl, rfl, _, rfl, _, rfl, g, _, rfl, DPut.k (k := Sum.inr ⟨#[ch]⟩) fg4 ?_, ?_⟩
          · rw [lenK]
            have : i * 1000 ≤ 1000 * 1000 := Nat.mul_le_mul_right _ (by omega)
            rw [sizeLine_eq]
            omega
          rw [kvsV_put]
          refine ⟨_, _, rfl, ?_, ?_, ?_, fun b o zb => ?_⟩
          · rw [upd_ne ngd2.symm]
            exact fd4
          · rw [upd_same, spread_take c0 bs[i].1 bs[i].2 j ch hch]
            rfl
          · rw [spread_take c0 bs[i].1 bs[i].2 j ch hch]
            have := addN_length ((bs[i].1.cps.toList.take j).foldl (fun c n => addN c ⟨#[n]⟩ bs[i].2) c0) ⟨#[ch]⟩ bs[i].2
            omega
          · rw [upd_ne (far zb).2]
            exact kp4 b o zb
        · rintro σ H4 ⟨y2, y6, rfl, fd4, fg4, lg4, kp4⟩
          have tk : bs[i].1.cps.toList.take bs[i].1.cps.size = bs[i].1.cps.toList := List.take_of_length_le (by simp)
          rw [tk] at fg4 lg4
          have sp : bs[i].1.cps.toList.foldl (fun c n => addN c ⟨#[n]⟩ bs[i].2) c0 = spread c0 bs[i].1 bs[i].2 := rfl
          rw [sp] at fg4 lg4
          refine ⟨_, _, _, _, rfl, fd4, ?_, ?_, kp4⟩
          · rw [step]
            exact fg4
          · rw [step]
            omega
      · rintro σ H2 ⟨x2, x3, x5, x6, rfl, ed, eg, lg, kp⟩
        rw [List.take_of_length_le (Nat.le_refl _)] at eg
        refine ⟨ed, _, rfl, ?_⟩
        refine q g _ (fun b o zb => ?_) (sm.free hg) ?_
        · rw [upd_ne (far zb).1]
          exact kp b o zb
        · rw [upd_ne ngd, eg]
          unfold standsFor byCh
          rw [hbs]
end
end K06

set_option autoImplicit false
set_option maxErrors 4
namespace K06
open PySem PySem.Spec PyProof.Rows L2 Tl
theorem lk_nil {f : Str} : ([] : List (Str × V)).lookup f = none := rfl
section
variable {P : Program} {w : World} {K : PySem.W.Frag} {mg : Str → Option Value} {base : Heap} {NC : Addr}
theorem ok_net_init {f : Addr} {fd : FuncData} (F : FnP K "__init__" "Net.__init__" s_Net_init_ f fd) (T : NetC K NC) (M : Mk K NC f) (gM : mg "Net" = some (.ref NC)) (b : Binds K fd ["self", "chars", "follow", "exits"] [])
    (B : Can P w K mg base CX0 "places_by_char" ["chars"] 1 spPbc) : CanNet P w K mg base NC 2 := by
  obtain ⟨fB, fdB, GB, gB, kB, bB⟩ := B
  have nd := sc_Net_init_.nd
  refine ⟨f, fd, M, gM, b, F.ok sc_Net_init_ (fun vs H Q E h => ?_) (fun cdv A outer s H vs Q E hr h => ?_)⟩
  · obtain ⟨p, dx, c, f, n, rfl, _⟩ := h
    rfl
  · obtain ⟨p, dx, c, f, n, rfl, ok, hp, hc, hf, q⟩ := h
    refine ⟨_, PSs.nox (pss_cons (ps_fld (pv 0) (pv 1) rfl) (pss_cons (ps_fld (pv 0) (pv 2) rfl) (pss_cons (ps_fld (pv 0) (pv 3) rfl) (pss_one (ps_fld (pv 0) (pe_call GB (hr.mono (by decide)) (by rfl) gB kB bB .nil pass0 (pa_cons (pv 1) pa_nil)) rfl))))), ?_⟩
    have npc : p ≠ c := fun z => by rw [z, hc] at hp; cases hp
    have npf : p ≠ f := fun z => by rw [z, hf] at hp; cases hp
    have far : ∀ {b : Addr} {o u : HO}, H b = some o → b ≠ p → (upd H p u) b = some o := fun {b o u} z nb => by
      rw [upd_ne nb]
      exact z
    refine ⟨_, rfl, _, rfl, p, NC, dx, _, rfl, hp, T.cl, T.n1, (by show 0 < 1000; decide), ?_⟩
    refine ⟨_, rfl, _, rfl, p, NC, dx, _, rfl, upd_same, T.cl, T.n2, (by show 1 < 1000; decide), ?_⟩
    rw [upd_upd]
    refine ⟨_, rfl, _, rfl, p, NC, dx, _, rfl, upd_same, T.cl, T.n3, (by show 2 < 1000; decide), ?_⟩
    rw [upd_upd]
    obtain ⟨a1, a2, a3, a4, a5⟩ := ok
    refine ⟨_, rfl, c, n.chars, rfl, far hc npc.symm, a2, a5, fun d H' sm hd ed => ?_⟩
    have e1 := sm _ _ upd_same
    have ndp : d ≠ p := fun z => by rw [z, upd_same] at hd; cases hd
    refine ⟨_, rfl, p, NC, dx, _, rfl, e1, T.cl, T.n4, (by show 3 < 1000; decide), ?_⟩
    refine q _ (fun x o e nx => ?_) ⟨dx, d, by rw [upd_ne ndp] at hd; exact hd, ?_, ?_, ?_, ?_⟩
    · rw [upd_ne nx]
      exact sm _ _ (far e nx)
    · rw [upd_same]
      rfl
    · rw [upd_ne npc.symm]
      exact sm _ _ (far hc npc.symm)
    · rw [upd_ne npf.symm]
      exact sm _ _ (far hf npf.symm)
    · rw [upd_ne ndp]
      exact ed
end
end K06

set_option autoImplicit false
set_option maxErrors 4
/-! A dict of True's whose keys are nested tuples: what {k: True for ..} and tuple(d) make of it. -/
namespace Tl
open PySem PySem.Spec PyProof.Rows L2
mutual
/-- v is the key k, by the tracked tuples -/
inductive NkV (H : Hp) : NestedKey → V → Prop
  | non : NkV H .none .non
  | int (i : Int) : NkV H (.num i) (.int i)
  | str (x : Str) : NkV H (.text x) (.str x)
  | tup {a : Addr} {vs : List V} {ks : List NestedKey} : H a = some (.tup vs) → NkAll H ks vs → NkV H (.tup ks) (.ref a)
inductive NkAll (H : Hp) : List NestedKey → List V → Prop
  | nil : NkAll H [] []
  | cons {k : NestedKey} {v : V} {ks : List NestedKey} {vs : List V} : NkV H k v → NkAll H ks vs → NkAll H (k :: ks) (v :: vs)
end
section
variable {P : Program} {w : World} {H H' : Hp} {h : Heap}
mutual
theorem NkV.is (ok : HOk P w H h) : ∀ (k : NestedKey) (v : V) (u : Value), NkV H k v → RelV v u → NestedIs h k u
  | .none, _, _, x, r => by
    cases x
    cases r
    exact .none
  | .num i, _, _, x, r => by
    cases x
    obtain ⟨t, rfl⟩ := r
    exact .int i t
  | .text z, _, _, x, r => by
    cases x
    obtain ⟨t, rfl⟩ := r
    exact .text z t
  | .tup ks, _, _, x, r => by
    cases x with
    | tup e al =>
      cases r
      obtain ⟨_, its, rel, o, g, c, n, d⟩ := ok _ _ e
      exact .tup g c d (by simpa using NkAll.is ok ks _ its al rel)
theorem NkAll.is (ok : HOk P w H h) : ∀ (ks : List NestedKey) (vs : List V) (us : List Value), NkAll H ks vs → Vals vs us → NestedAll h ks us
  | [], _, _, x, r => by
    cases x
    cases r
    exact .nil
  | k :: ks, _, _, x, r => by
    cases x with
    | cons x1 x2 =>
      cases r with
      | cons r1 r2 => exact .cons (NkV.is ok k _ _ x1 r1) (NkAll.is ok ks _ _ x2 r2)
end
mutual
theorem NkV.same (s : Same H H') : ∀ (k : NestedKey) (v : V), NkV H k v → NkV H' k v
  | .none, _, x => by cases x; exact .non
  | .num i, _, x => by cases x; exact .int i
  | .text z, _, x => by cases x; exact .str z
  | .tup ks, _, x => by
    cases x with
    | tup e al => exact .tup (s _ _ e) (NkAll.same s ks _ al)
theorem NkAll.same (s : Same H H') : ∀ (ks : List NestedKey) (vs : List V), NkAll H ks vs → NkAll H' ks vs
  | [], _, x => by cases x; exact .nil
  | k :: ks, _, x => by
    cases x with
    | cons x1 x2 => exact .cons (NkV.same s k _ x1) (NkAll.same s ks _ x2)
end
end
abbrev Ks := List (NestedKey × Addr)
def rowsO (ks : Ks) : List (NestedKey × Addr × Value) := ks.map fun x => (x.1, x.2, .bool true)
/-- the dict at D: the keys in order, each with True -/
def ordO (P : Program) (w : World) (D : Addr) (ks : Ks) : HO := .ext fun h => ks.length ≤ sizeLine ∧ (D == sysModules) = false ∧ (ks.map (·.1)).Nodup ∧ ∃ o es ep, h.get? D = some o ∧ o.ExactDict ∧ o.data = .dict es ep ∧ es.toList = (rowsO ks).map (entryOfKey (nestedKind P w))
def putO (ks : Ks) (k : NestedKey) (a : Addr) : Ks := if k ∈ ks.map (·.1) then ks else ks ++ [(k, a)]
/-- the keys stand where they are said to stand -/
def KeysAt (H : Hp) (ks : Ks) : Prop := ∀ x ∈ ks, x.1.depth ≤ 8 ∧ NkV H x.1 (.ref x.2)
theorem KeysAt.same {H H' : Hp} {ks : Ks} (k : KeysAt H ks) (s : Same H H') : KeysAt H' ks := fun x hx => ⟨(k x hx).1, (k x hx).2.same s⟩
theorem KeysAt.put {H : Hp} {ks : Ks} {k : NestedKey} {a : Addr} (h : KeysAt H ks) (d : k.depth ≤ 8) (v : NkV H k (.ref a)) : KeysAt H (putO ks k a) := by
  unfold putO
  split
  · exact h
  · intro x hx
    rcases List.mem_append.mp hx with hx | hx
    · exact h x hx
    · rw [List.mem_singleton.mp hx]
      exact ⟨d, v⟩
theorem putO_nodup {ks : Ks} {k : NestedKey} {a : Addr} (h : (ks.map (·.1)).Nodup) : ((putO ks k a).map (·.1)).Nodup := by
  unfold putO
  split
  · exact h
  · rename_i n
    rw [List.map_append, List.nodup_append]
    refine ⟨h, by simp, fun x hx y hy e => ?_⟩
    simp only [List.map_cons, List.map_nil, List.mem_singleton] at hy
    subst hy e
    exact n hx
theorem putO_length (ks : Ks) (k : NestedKey) (a : Addr) : (putO ks k a).length ≤ ks.length + 1 := by
  unfold putO
  split <;> simp
theorem rowsO_put (ks : Ks) (k : NestedKey) (a : Addr) : storedH (rowsO ks) k a (.bool true) = rowsO (putO ks k a) := by
  have look : (atKey (rowsO ks) k).isSome = decide (k ∈ ks.map (·.1)) := by
    unfold rowsO
    induction ks with
    | nil => rfl
    | cons x r ih =>
      by_cases e : x.1 = k
      · simp [atKey, e]
      · have e2 : ¬ k = x.1 := fun z => e z.symm
        have m : decide (k ∈ (x :: r).map (·.1)) = decide (k ∈ r.map (·.1)) := by
          rw [decide_eq_decide, List.map_cons, List.mem_cons]
          exact ⟨fun z => z.resolve_left e2, .inr⟩
        rw [m, ← ih]
        simp [atKey, e]
  have keep : (rowsO ks).map (putAt k (.bool true)) = rowsO ks := by
    unfold rowsO
    rw [List.map_map]
    refine List.map_congr_left fun x _ => ?_
    by_cases e : x.1 = k <;> simp [putAt, e]
  unfold storedH putO
  rw [look]
  by_cases m : k ∈ ks.map (·.1)
  · rw [if_pos (decide_eq_true m), if_pos m, keep]
  · rw [if_neg (by simpa using m), if_neg m]
    unfold rowsO
    rw [List.map_append]
    rfl
section
variable {P : Program} {w : World} {H : Hp} {h : Heap} {D : Addr} {ks : Ks}
theorem ordO_ok (z : ks.length ≤ sizeLine) (nd : (D == sysModules) = false) (dis : (ks.map (·.1)).Nodup) (x : ∃ o es ep, h.get? D = some o ∧ o.ExactDict ∧ o.data = .dict es ep ∧ es.toList = (rowsO ks).map (entryOfKey (nestedKind P w))) : ObjOk P w H h D (ordO P w D ks) := by
  obtain ⟨o, es, ep, g, r⟩ := id x
  exact ⟨⟨z, nd, dis, x⟩, ⟨o, g⟩, fun h1 h2 y k => by
    obtain ⟨z, nd, dis, o, es, ep, g, r⟩ := y
    exact ⟨z, nd, dis, o, es, ep, k _ g, r⟩⟩
theorem ordO_new (hp : Heap) (hb : sysModules < hp.objs.size) : ObjOk P w H (hp.push { cls := .type "dict", data := .dict #[] }) hp.objs.size (ordO P w hp.objs.size []) :=
  ordO_ok (Nat.zero_le _) (beq_eq_false_iff_ne.mpr (Ne.symm (Nat.ne_of_lt hb))) List.nodup_nil ⟨_, #[], 0, Heap.get?_push_size _ rfl, ⟨rfl, rfl, rfl⟩, rfl, rfl⟩
theorem ordO_at (ok : HOk P w H h) (e : H D = some (ordO P w D ks)) : ks.length ≤ sizeLine ∧ (D == sysModules) = false ∧ (ks.map (·.1)).Nodup ∧ ∃ o es ep, h.get? D = some o ∧ o.ExactDict ∧ o.data = .dict es ep ∧ es.toList = (rowsO ks).map (entryOfKey (nestedKind P w)) := by
  have x : ObjOk P w H h D (ordO P w D ks) := ok D _ e
  exact x.1
theorem ordO_keyed (ok : HOk P w H h) (e : H D = some (ordO P w D ks)) (at_ : KeysAt H ks) : h.DictOfH (nestedKind P w) D (rowsO ks) := by
  obtain ⟨_, _, dis, o, es, ep, g, c, d, l⟩ := ordO_at ok e
  refine ⟨o, es, ep, g, c, d, l, fun x hx => ?_, by unfold rowsO; rw [List.map_map]; exact dis⟩
  obtain ⟨y, hy, rfl⟩ := List.mem_map.mp hx
  exact ⟨(at_ y hy).2.is ok _ _ _ rfl, (at_ y hy).1⟩
end
/-- d[k] = True by a comprehension -/
theorem put_ord {X : Cx} {pins : List (Addr × Obj)} {σ : L2.St} {H : Hp} {s : Shared} {E : Value → Shared → Prop} {D a : Addr} {ks : Ks} {k : NestedKey} {Q : Unit → Shared → Prop} (hu : X.A.units + 8 < cLine) (I : Inv X pins σ H s) (e : H D = some (ordO X.prog X.w D ks)) (at_ : KeysAt H ks)
    (small : ks.length < sizeLine) (dp : k.depth ≤ 8) (hk : NkV H k (.ref a)) (h : ∀ s', Inv X pins σ (upd H D (ordO X.prog X.w D (putO ks k a))) s' → Q () s') : wpAny (model X.prog X.w) X.A (dictSet D (.ref a) (.bool true)) Q E s := by
  obtain ⟨_, nd, dis, _⟩ := ordO_at I.hok e
  have len : (rowsO ks).length ≤ sizeLine := by
    unfold rowsO
    rw [List.length_map]
    exact Nat.le_of_lt small
  refine wpAny_dictSet_heap (knd := nestedKind X.prog X.w) (hsz := len) hu ⟨hk.is I.hok _ _ _ rfl, dp⟩ (ordO_keyed I.hok e at_) fun h' dd sb => h _ ?_
  rw [rowsO_put] at dd
  obtain ⟨o, es, ep, g, c, d, l, _, _⟩ := dd
  exact d_write I (by rw [e]; exact True.intro) sb ⟨o, g⟩ (ordO_ok (Nat.le_trans (putO_length ks k a) small) nd (putO_nodup dis) ⟨o, es, ep, g, c, d, l⟩)
end Tl

set_option autoImplicit false
set_option maxErrors 4
/-! {k: True for target in iter if ..}, k a tuple, nested. -/
namespace Tl
open PySem PySem.Spec PyProof.Rows L2
section
variable {X : Cx}
/-- one turn: the target is bound, the tests asked, the key and the True made, the key put -/
def ordTurn (P : Program) (w : World) (g : TG) (tt : TT) (tk tv : TE) (vs : List Nat) (σ : L2.St) (D : Addr) (Nx : Hp → Prop) (x : V) (H : Hp) : Prop := g x (wipe σ vs) H fun σ2 H2 => wipe σ2 vs = wipe σ vs ∧ tt σ2 H2 fun b H3 =>
  if b = true then tk σ2 H3 fun y H4 => tv σ2 H4 fun z H5 => ∃ (ks : Ks) (k : NestedKey) (a : Addr), y = .ref a ∧ z = .bl true ∧ H5 D = some (ordO P w D ks) ∧ ks.length < sizeLine ∧ k.depth ≤ 8 ∧ NkV H5 k (.ref a) ∧ KeysAt H5 ks ∧ Nx (upd H5 D (ordO P w D (putO ks k a))) else Nx H3
def tOrd (P : Program) (w : World) (wi : TI) (g : TG) (tt : TT) (tk tv : TE) (vs : List Nat) : TE := fun σ H Q => wi σ H fun J H1 => ∀ D, H1 D = none → ∃ W : Nat → Nat → Hp → Prop, (∃ m, W 0 m (upd H1 D (ordO P w D []))) ∧
  ∀ i m H2, W i m H2 → (J.stop i H2 ∧ Q (.ref D) H2) ∨ (J.go i H2 ∧ ∃ Nx : Hp → Prop, (∀ H3, Nx H3 → ∃ j, j < m ∧ W (i + 1) j H3) ∧ ∀ x H3, J.yld i H2 x H3 → ordTurn P w g tt tk tv vs σ D Nx x H3)
theorem ord_core {pins : List (Addr × Obj)} {s : Shared} {σ : L2.St} {H : Hp} {Q : VK} {kx vx tg iter : Expr} {ifs : List Expr} {scope : Scope} {own : List (Str × Nat)} {pos pos' : Pos} {wi : TI} {g : TG} {tt : TT} {tk tv : TE} {use : Option (Value → Sem Unit)} {Qf : Value → Shared → Prop}
    (calm : X.calm = true) (hu : X.A.units + 8 < cLine) (nd : X.N.Nodup) (I : Inv X pins σ H s) (it : PI X tg iter wi) (bo : BlkOk X.N X.env.scope scope own)
    (pg : ∀ (s : Shared) (H : Hp) (C : Addr) (cl : List (Str × Addr)) (fp : List Addr), PG (X.blk s H scope (compEnvC scope cl C X.env) fp) tg g) (pt : ∀ (s : Shared) (H : Hp) (C : Addr) (cl : List (Str × Addr)) (fp : List Addr), PTs (X.blk s H scope (compEnvC scope cl C X.env) fp) ifs tt)
    (pk : ∀ (s : Shared) (H : Hp) (C : Addr) (cl : List (Str × Addr)) (fp : List Addr), PE (X.blk s H scope (compEnvC scope cl C X.env) fp) kx tk)
    (pv : ∀ (s : Shared) (H : Hp) (C : Addr) (cl : List (Str × Addr)) (fp : List Addr), PE (X.blk s H scope (compEnvC scope cl C X.env) fp) vx tv) (fold : ∀ x, foldedSetIterable iter X.env x = pure x)
    (asked : tOrd X.prog X.w wi g tt tk tv (own.map (·.2)) σ H Q)
    (ends : ∀ D C s' m H', Inv X pins σ H' s' → Q (.ref D) H' → s'.heap.Ns C m → FpOk X pins H' C → compPost (model X.prog X.w) X.A X.xe use Qf (.ref D) C (.ok .next) s') :
    wpAny (model X.prog X.w) X.A (comprehension (.DictComp kx vx [⟨tg, iter, ifs, 0⟩] scope pos) scope X.env pos' newDict false (eval iter X.env) use) Qf X.xe s := by
  have clo : ∀ y ∈ scope.names, y.2 = .free → ∃ c, X.env.cells.lookup y.1 = some c := fun y hy e => (bo.free y hy e).elim (fun z => I.ok.has _ (.inl z)) fun z => I.ok.has _ (.inr z)
  refine wpAny_comprehension_free (use := use) rfl fold (closure_ok clo) bo.kind (fun y hy e => by rw [bo.uniq y hy, e]) (thn (it.run pins s σ H _ I asked) fun src sa ha => thn ha fun iv sb hb => ?_)
  obtain ⟨ita, fp, tn, J, Hb, rfl, Ib, T, at0, fpok, wish⟩ := hb
  refine wpAny_newObj_type (newEnv_comp ?_)
  -- the new dict
  generalize eD : sb.heap.objs.size = D
  obtain ⟨W, ⟨m0, w0⟩, turns⟩ := wish D (Ib.hok.fresh (Nat.le_of_eq eD))
  have lay : Inv X pins σ (upd Hb D (ordO X.prog X.w D [])) { sb with heap := sb.heap.push { cls := .type "dict", data := .dict #[] } } := by
    subst eD
    exact Ib.laid (t' := sb.toks) (fun b o e => Heap.get?_push_of_some _ e) (Nat.le_refl _) (ordO_new sb.heap Ib.big)
  have old : ∀ b ∈ fp, b < sb.heap.objs.size := fun b hb => by
    obtain ⟨o, e, _⟩ := T.obj _ _ at0 b hb
    exact Heap.lt_size e
  generalize eHc : upd Hb D (ordO X.prog X.w D []) = Hc at lay w0
  have fpc : ∀ b ∈ fp, FpOk X pins Hc b ∧ b < (sb.heap.push { cls := .type "dict", data := .dict #[] }).objs.size := fun b hb => by
    have lt := old b hb
    refine ⟨⟨?_, (fpok b hb).2⟩, Nat.lt_trans lt (by rw [Heap.size_push]; exact Nat.lt_succ_self _)⟩
    rw [← eHc, upd_ne (by rw [← eD]; exact Nat.ne_of_lt lt)]
    exact (fpok b hb).1
  have tnc : tn 0 (sb.heap.push { cls := .type "dict", data := .dict #[] }) := T.keep _ _ _ at0 fun b _ o e => Heap.get?_push_of_some _ e
  generalize esc : ({ sb with heap := sb.heap.push { cls := .type "dict", data := .dict #[] } } : Shared) = sc at lay
  have hsc : sb.heap.push { cls := .type "dict", data := .dict #[] } = sc.heap := by rw [← esc]
  rw [hsc] at fpc tnc
  have start := block_start lay bo nd fpc
  have kg := pg sc Hc sc.heap.objs.size (cellsFrom (sc.heap.objs.size + 1) scope.names (cloFrom X.env.cells scope.names [])) fp
  have kt := pt sc Hc sc.heap.objs.size (cellsFrom (sc.heap.objs.size + 1) scope.names (cloFrom X.env.cells scope.names [])) fp
  have kk := pk sc Hc sc.heap.objs.size (cellsFrom (sc.heap.objs.size + 1) scope.names (cloFrom X.env.cells scope.names [])) fp
  have kv := pv sc Hc sc.heap.objs.size (cellsFrom (sc.heap.objs.size + 1) scope.names (cloFrom X.env.cells scope.names [])) fp
  show codeAny _ _ (.compStart (.DictComp kx vx [⟨tg, iter, ifs, 0⟩] scope pos) 0 (.ref ita) (.ref D) (compEnvC scope (cellsFrom (sc.heap.objs.size + 1) scope.names (cloFrom X.env.cells scope.names [])) sc.heap.objs.size X.env)) (compPost (model X.prog X.w) X.A X.xe use Qf (.ref D) sc.heap.objs.size)
    { sc with heap := pushCells (sc.heap.push { cls := .type "dict", data := .dict #[] }) scope.names }
  generalize ece : compEnvC scope (cellsFrom (sc.heap.objs.size + 1) scope.names (cloFrom X.env.cells scope.names [])) sc.heap.objs.size X.env = ce at start kg kt kk kv ⊢
  have lc : ce.locals = sc.heap.objs.size := by rw [← ece]; rfl
  have tnd : tn 0 (pushCells (sc.heap.push { cls := .type "dict", data := .dict #[] }) scope.names) := T.keep _ _ _ tnc fun b _ o e => pushCells_keeps _ _ _ _ (Heap.get?_push_of_some _ e)
  generalize ese : ({ sc with heap := pushCells (sc.heap.push { cls := .type "dict", data := .dict #[] }) scope.names } : Shared) = se at start ⊢
  have tne : tn 0 se.heap := by rw [← ese]; exact tnd
  have still : ∀ {σ' : L2.St} {H' : Hp} {s' : Shared}, Inv (X.blk sc Hc scope ce fp) [] σ' H' s' → (∀ b ∈ fp, H' b = none) → ∀ b ∈ fp, FpOk (X.blk sc Hc scope ce fp) [] H' b := by
    intro σ' H' s' I' n b hb
    exact ⟨n b hb, (I'.ok.exf b hb).1, I'.ok.exfs b hb, .inl hb, fun x c e => (I'.ok.exf b hb).2 x c e, fun q hq => absurd (show q ∈ ([] : List (Addr × Obj)) ++ [] from hq) (by simp)⟩
  have loop : codeAny (model X.prog X.w) X.A (.compLoop (.DictComp kx vx [⟨tg, iter, ifs, 0⟩] scope pos) 0 (.ref ita) (.ref D) ce) (compPost (model X.prog X.w) X.A X.xe use Qf (.ref D) sc.heap.objs.size) se := by
    refine compLoop_anyD (fun m s' => ∃ i H', Inv (X.blk sc Hc scope ce fp) [] (wipe σ (own.map (·.2))) H' s' ∧ tn i s'.heap ∧ (∀ b ∈ fp, H' b = none) ∧ W i m H') ?_ m0 ⟨0, Hc, start, tne, fun b hb => (fpc b hb).1.1, w0⟩
    rintro m sf ⟨i, Hf, If, tf, nf, wf⟩
    rcases turns i m Hf wf with ⟨stop, fin⟩ | ⟨go, Nx, less, turn⟩
    · refine thnF (T.done (X.blk sc Hc scope ce fp) rfl rfl rfl calm i [] sf _ Hf (fun _ _ => False) If (still If nf) tf stop) fun r sg ⟨hr, Ig⟩ => ?_
      subst hr
      have back : Inv X pins σ Hf sg := lay.call' (ch := fp) Ig.os Ig.base Ig.hok Ig.bare fun b hb => by
        obtain ⟨⟨_, q1, _, q3, q4, q5⟩, _⟩ := fpc b hb
        exact ⟨q3, q1, q4, q5⟩
      have free : Hf sc.heap.objs.size = none := by rw [← lc]; exact Ig.free
      obtain ⟨mL, ns, _⟩ := Ig.loc
      exact ends D sc.heap.objs.size sg mL Hf back fin (by rw [← lc]; exact ns) (lay.fpOk (Nat.le_refl _) free)
    · refine thnF (T.item (X.blk sc Hc scope ce fp) rfl rfl rfl calm i [] sf _ Hf (fun _ _ => False) If (still If nf) tf go) fun r sg ⟨u, hr, hg⟩ => ?_
      subst hr
      refine thnF hg fun _ sh ⟨x, Hh, Ih, rx, yl, th, nh⟩ => ?_
      have Ip := Ih.pinned (still Ih nh) (T.obj _ _ th)
      refine thnF (kg.run _ sh _ Hh x u _ Ip rx (turn x Hh yl)) fun _ si ⟨σi, Hi, Ii, wi2, qi⟩ => ?_
      refine thnF (kt.run _ si σi Hi _ Ii qi) fun b sj ⟨Hj, Ij, qj⟩ => ?_
      have closeTurn : ∀ {s' : Shared} {H' : Hp}, Inv (X.blk sc Hc scope ce fp) ([] ++ pinsAt fp sh.heap) σi H' s' → Nx H' →
          ∃ j, j < m ∧ ∃ i' H2, Inv (X.blk sc Hc scope ce fp) [] (wipe σ (own.map (·.2))) H2 s' ∧ tn i' s'.heap ∧ (∀ b ∈ fp, H2 b = none) ∧ W i' j H2 := by
        intro s' H' I' nx
        obtain ⟨j, lt, wj⟩ := less H' nx
        have stay : ∀ b ∈ fp, ∀ o, sh.heap.get? b = some o → s'.heap.get? b = some o ∧ H' b = none := fun b hb o e => by
          have z := I'.pin (b, o) (List.mem_append_right _ (List.mem_append_right _ (mem_pinsAt hb e)))
          exact ⟨z.1, z.2.1⟩
        refine ⟨j, lt, i + 1, H', (I'.unpinned (pins := [])).weak (by rw [← wi2, wipe_length]) (fun n v e => ?_), T.keep _ _ _ th fun b hb o e => (stay b hb o e).1, fun b hb => ?_, wj⟩
        · rw [← wi2] at e
          exact (wipe_some e).1
        · obtain ⟨o, e, _⟩ := T.obj _ _ th b hb
          exact (stay b hb o e).2
      cases b with
      | false =>
        rw [if_neg Bool.false_ne_true] at qj ⊢
        exact closeTurn Ij qj
      | true =>
        rw [if_pos rfl] at qj ⊢
        refine thnF (kk.run _ sj σi Hj _ Ij qj) fun ku sk ⟨ky, Hk, Ik, rk, qk⟩ => ?_
        refine thnF (kv.run _ sk σi Hk _ Ik qk) fun vu sl ⟨vy, Hl, Il, rl, ks, k, a, eky, evy, eD2, small, dp, isk, kat, nx⟩ => ?_
        subst eky evy
        obtain rfl : ku = Value.ref a := rk
        obtain rfl : vu = Value.bool true := rl
        exact put_ord (X := X.blk sc Hc scope ce fp) hu Il eD2 kat small dp isk fun sm Im => closeTurn Im nx
  exact codeAny_compStart_dict loop (T.self X.A 0 _ _ _ tne loop)
theorem pe_ord {kx vx tg iter : Expr} {ifs : List Expr} {scope : Scope} {own : List (Str × Nat)} {pos : Pos} {wi : TI} {g : TG} {tt : TT} {tk tv : TE} (calm : X.calm = true) (hu : X.A.units + 8 < cLine) (nd : X.N.Nodup) (it : PI X tg iter wi) (bo : BlkOk X.N X.env.scope scope own)
    (pg : ∀ (s : Shared) (H : Hp) (C : Addr) (cl : List (Str × Addr)) (fp : List Addr), PG (X.blk s H scope (compEnvC scope cl C X.env) fp) tg g) (pt : ∀ (s : Shared) (H : Hp) (C : Addr) (cl : List (Str × Addr)) (fp : List Addr), PTs (X.blk s H scope (compEnvC scope cl C X.env) fp) ifs tt)
    (pk : ∀ (s : Shared) (H : Hp) (C : Addr) (cl : List (Str × Addr)) (fp : List Addr), PE (X.blk s H scope (compEnvC scope cl C X.env) fp) kx tk)
    (pv : ∀ (s : Shared) (H : Hp) (C : Addr) (cl : List (Str × Addr)) (fp : List Addr), PE (X.blk s H scope (compEnvC scope cl C X.env) fp) vx tv) (fold : ∀ x, foldedSetIterable iter X.env x = pure x := by intro _; rfl) :
    PE X (.DictComp kx vx [⟨tg, iter, ifs, 0⟩] scope pos) (tOrd X.prog X.w wi g tt tk tv (own.map (·.2))) := by
  refine ⟨fun pins s σ H Q I asked => ?_⟩
  rw [arm_eval_DictComp]
  refine ord_core calm hu nd I it bo pg pt pk pv fold asked fun D C s' m H' I' q ns f => ⟨m, ns, fun h2 sb2 => ?_⟩
  obtain ⟨p0, p1, p2, p3, p4, p5⟩ := f
  exact ⟨.ref D, H', I'.turned (t' := s'.toks) (fun b o ne e => (sb2.2 b ne).trans e) p0 p1 p3 p4 p5, rfl, q⟩
/-- y = {k: True for ..} -/
theorem ps_setOrd {i : Nat} {y : Str} {py spos : Pos} {kx vx tg iter : Expr} {ifs : List Expr} {scope : Scope} {own : List (Str × Nat)} {pos : Pos} {wi : TI} {g : TG} {tt : TT} {tk tv : TE} (calm : X.calm = true) (hu : X.A.units + 8 < cLine) (nd : X.N.Nodup) (hy : X.N[i]? = some y) (lo : X.env.scope.names.lookup y = some .local)
    (sw : swapsWith (.DictComp kx vx [⟨tg, iter, ifs, 0⟩] scope pos) (some (.Name y py)) spos.line X.env = pure true) (it : PI X tg iter wi) (bo : BlkOk X.N X.env.scope scope own)
    (pg : ∀ (s : Shared) (H : Hp) (C : Addr) (cl : List (Str × Addr)) (fp : List Addr), PG (X.blk s H scope (compEnvC scope cl C X.env) fp) tg g) (pt : ∀ (s : Shared) (H : Hp) (C : Addr) (cl : List (Str × Addr)) (fp : List Addr), PTs (X.blk s H scope (compEnvC scope cl C X.env) fp) ifs tt)
    (pk : ∀ (s : Shared) (H : Hp) (C : Addr) (cl : List (Str × Addr)) (fp : List Addr), PE (X.blk s H scope (compEnvC scope cl C X.env) fp) kx tk)
    (pv : ∀ (s : Shared) (H : Hp) (C : Addr) (cl : List (Str × Addr)) (fp : List Addr), PE (X.blk s H scope (compEnvC scope cl C X.env) fp) vx tv) (fold : ∀ x, foldedSetIterable iter X.env x = pure x := by intro _; rfl) :
    PS X (.Assign [.Name y py] (.DictComp kx vx [⟨tg, iter, ifs, 0⟩] scope pos) spos) (tAsg (tOrd X.prog X.w wi g tt tk tv (own.map (·.2))) (gName i)) := by
  refine ⟨fun pins s σ H D0 I h => ?_⟩
  rw [exec_Assign_Name_used _ _ _ _ sw]
  refine wpAny_bind (wpAny_standAt (wpAny_bind ?_))
  show wpAny _ X.A (comprehension (.DictComp kx vx [⟨tg, iter, ifs, 0⟩] scope pos) scope X.env (firstIterPos [⟨tg, iter, ifs, 0⟩] pos) newDict false (eval iter X.env) (some (assign (.Name y py) X.env)) >>= _) _ _ s
  have asked : tOrd X.prog X.w wi g tt tk tv (own.map (·.2)) σ H (fun x H1 => gName i x σ H1 D0.nx) := h
  refine wpAny_bind (thn (ord_core (Qf := fun _ s2 => SP X pins D0 .next s2) calm hu nd I it bo pg pt pk pv fold asked fun D C s1 m H1 I1 q ns f => ?_) fun _ s2 hq => wpAny_pure (wpAny_pure hq))
  show wpAny _ _ (assign (.Name y py) X.env (.ref D)) _ _ _
  refine wpAny_assign_Name (store_ok2 (v := V.ref D) I1 nd hy (.inl lo) rfl (fun s2 I2 side => ?_) (.inr lo))
  obtain ⟨a, sb, ha⟩ := side
  obtain ⟨p0, p1, p2, p3, p4, p5⟩ := f
  have ne : C ≠ a := by
    cases ha with
    | inl z =>
      rw [z]
      exact p1
    | inr z => exact fun e => p4 y a z e.symm
  exact ⟨m, ns.sameBut sb ne, fun h3 sb3 => ⟨_, H1, I2.turned (t' := s2.toks) (fun b o hb e => (sb3.2 b hb).trans e) p0 p1 p3 p4 p5, q⟩⟩
end
end Tl

set_option autoImplicit false
set_option maxErrors 4
/-! tuple(d), d a dict of nested tuple keys. -/
namespace Tl
open PySem PySem.Spec PyProof.Rows L2
section
open PySem.Calls PySem.W
variable {prog : Program} {w : World} {A : Around} {E : Value → Shared → Prop} {s : Shared} {r d : Addr} {n : Nat} {Pd : Nat → Value → Prop} {OK : Heap → Prop}
/-- tuple(x), x walked as KdlSrc says -/
theorem tuple_src {Q : Value → Shared → Prop} (S : PySem.W.KdlSrc prog w "dict" r d n Pd OK) (calm : A.handled = none) (ok : OK s.heap) (small : n ≤ sizeLine)
    (q : ∀ (hp : Heap) (tk : Nat) (acc : Array Value), (∀ b o, s.heap.get? b = some o → hp.get? b = some o) → ItemsOf Pd acc n → Q (.ref hp.objs.size) { s with heap := hp.push { cls := .type "tuple", data := .seq acc }, toks := tk }) :
    wpAny (model prog w) A (call (.type "tuple") [.ref r]) Q E s := by
  have is : s.TypeIs (.ref r) "dict" := S.type s ok
  have calm2 : A.in1.in1.handled = none := calm
  refine callType_codes (Q₁ := fun u s2 => s2.TypeIs u "tuple" ∧ Q u s2) PySem.F.called_tuple (PySem.F.typeCall_tuple_1 _) PySem.F.entry_object_init (codeAny_of_tree ?_) fun u s2 hu =>
    ⟨hu.1, PySem.F.args_object_init_2 u _, object_init_meets PySem.F.called_tuple.init.lookup PySem.F.called_tuple.made (by decide) prog w A.in1 _ s2 ⟨hu.1, rfl, hu.2⟩⟩
  show wpAny _ _ (checkBuiltinCall "tuple.__new__" _ >>= fun _ => again _) _ _ s
  refine wpAny_bind (wpAny_of_eq (PySem.F.newCall_tuple_1 _) (wpAny_pure ⟨plainId_quiet PySem.F.plain_tuple_new _, codeAny_builtin PySem.F.entry_tuple_new ?_⟩))
  rw [Around.under_plainId PySem.F.plain_tuple_new _]
  have f1 := sub_tuple_self
  have f2 := init_tuple_lookup
  have f3 := madeHere_tuple
  wp_walk using wpAny_typeOf is, kdu_collect (A := A.in1.in1) S calm2 ok small
  intro hp tk acc keep all
  show wpAny _ _ (Builtin.Tuple.tupleExact acc.toList.toArray >>= ret) _ _ _
  rw [Array.toArray_toList]
  unfold Builtin.Tuple.tupleExact
  refine wpAny_bind (wpAny_newObj_type (wpAny_pure ⟨⟨_, Heap.get?_push_size _ rfl, rfl⟩, q hp tk acc keep all⟩) ?_)
  show acc.size ≤ sizeLine
  rw [all.1]
  exact small
end
theorem vals_addrs : ∀ bs : List Addr, Vals (bs.map V.ref) (bs.map Value.ref)
  | [] => .nil
  | _ :: bs => .cons rfl (vals_addrs bs)
theorem call_tupOrd {X : Cx} (calm : X.calm = true) : CallR X (.type "tuple") (fun xs H Q => ∃ (D : Addr) (ks : Ks), xs = [.ref D] ∧ H D = some (ordO X.prog X.w D ks) ∧ ∀ p, H p = none → Q (.ref p) (upd H p (.tup ((ks.map (·.2)).map V.ref)))) := by
  intro pins s σ H xs us Q I r h
  obtain ⟨D, ks, rfl, e, q⟩ := h
  obtain ⟨u, rfl, rx⟩ := r.one
  cases rx
  obtain ⟨z, ns, _, o, es, ep, g, ex, dt, l⟩ := ordO_at I.hok e
  have raw : s.heap.DictRaw D es ep := ⟨o, g, ex, dt⟩
  have len : es.size = ks.length := by
    have y := congrArg List.length l
    unfold rowsO at y
    simpa using y
  refine tuple_src (PySem.KdlSrc.rawDict ns) (I.ok.hd calm) raw (by rw [len]; exact z) fun hp tk acc keep all => ?_
  have ea : acc.toList = (ks.map (·.2)).map Value.ref := by
    apply List.ext_getElem?
    intro j
    have alen : acc.toList.length = ks.length := by rw [Array.length_toList, all.1, len]
    rw [List.map_map, List.getElem?_map]
    cases hj : acc.toList[j]? with
    | none =>
      have h1 := List.getElem?_eq_none_iff.mp hj
      rw [List.getElem?_eq_none (by omega)]
      rfl
    | some v =>
      obtain ⟨hi, rfl⟩ := all.2 j v (by rw [← Array.getElem?_toList]; exact hj)
      have hk : j < ks.length := by omega
      have e1 : es.toList[j]? = some es[j] := by rw [Array.getElem?_toList, Array.getElem?_eq_getElem hi]
      rw [l] at e1
      unfold rowsO at e1
      rw [List.map_map, List.getElem?_map, List.getElem?_eq_getElem hk] at e1
      have e2 := Option.some.inj e1
      rw [List.getElem?_eq_getElem hk, ← e2]
      rfl
  have rv : Vals ((ks.map (·.2)).map V.ref) acc.toList := by rw [ea]; exact vals_addrs _
  have J : Inv X pins σ H { s with heap := hp, toks := tk } := I.kept (t' := tk) keep
  refine ⟨.ref hp.objs.size, _, J.laid (t' := tk) (o := .tup ((ks.map (·.2)).map V.ref)) (fun b o e => Heap.get?_push_of_some _ e) (Nat.le_refl _) ⟨by rw [List.length_map, List.length_map]; exact z, acc.toList, rv, ?_⟩, rfl, q _ (J.hok.fresh (Nat.le_refl _))⟩
  rw [Array.toArray_toList]
  exact IsTup.new _ _
theorem ord_it {P : Program} {w : World} {J : It} {n : Nat} {G : Hp → Prop} {Y : Nat → Hp → V → Hp → Prop} (wk : Walk J n G Y) {g : TG} {tt : TT} {tk tv : TE} {vs : List Nat} {σ : L2.St} {H1 : Hp} {D : Addr} {Qd : Hp → Prop} (Pv : Nat → Hp → Prop) (h0 : Pv 0 (upd H1 D (ordO P w D []))) (hG : ∀ i H, i ≤ n → Pv i H → G H)
    (hs : ∀ i x H H', i < n → Pv i H → Y i H x H' → ordTurn P w g tt tk tv vs σ D (Pv (i + 1)) x H') (hd : ∀ H, Pv n H → Qd H) :
    ∃ W : Nat → Nat → Hp → Prop, (∃ m, W 0 m (upd H1 D (ordO P w D []))) ∧ ∀ i m H, W i m H → (J.stop i H ∧ Qd H) ∨ (J.go i H ∧ ∃ Nx : Hp → Prop, (∀ H3, Nx H3 → ∃ j, j < m ∧ W (i + 1) j H3) ∧ ∀ x H3, J.yld i H x H3 → ordTurn P w g tt tk tv vs σ D Nx x H3) := by
  refine ⟨fun i m H => m = n - i ∧ i ≤ n ∧ Pv i H, ⟨n, rfl, Nat.zero_le _, h0⟩, fun i m H z => ?_⟩
  obtain ⟨rfl, hi, p⟩ := z
  rcases Nat.lt_or_ge i n with lt | ge
  · exact .inr ⟨wk.goes i H lt (hG i H hi p), Pv (i + 1), fun H' p' => ⟨n - (i + 1), by omega, rfl, lt, p'⟩, fun x H' y => hs i x H H' lt p (wk.yields i H x H' lt (hG i H hi p) y)⟩
  · obtain rfl : i = n := Nat.le_antisymm hi ge
    exact .inl ⟨wk.stops H (hG i H hi p), hd H p⟩
end Tl

set_option autoImplicit false
set_option maxErrors 4
/-! [e for x in xs for y in ys] by walks. -/
namespace Tl
open PySem PySem.Spec PyProof.Rows L2
section
variable {J : It} {n : Nat} {G : Hp → Prop} {Y : Nat → Hp → V → Hp → Prop}
/-- the inner one: its turns go on from the heap that it finds -/
theorem in_it (w : Walk J n G Y) {g : TG} {tt : TT} {te : TE} {vs : List Nat} {σ : L2.St} {H0 : Hp} {D : Addr} {Nx : Hp → Prop} (Pv : Nat → Hp → Prop) (h0 : Pv 0 H0) (hG : ∀ j H, j ≤ n → Pv j H → G H)
    (hs : ∀ j x H H', j < n → Pv j H → Y j H x H' → g x (wipe σ vs) H' fun σ3 H5 => wipe σ3 vs = wipe σ vs ∧ tt σ3 H5 fun b H6 =>
      if b = true then te σ3 H6 fun y H7 => ∃ acc, H7 D = some (.lst acc) ∧ acc.length < sizeLine ∧ Pv (j + 1) (upd H7 D (.lst (acc ++ [y]))) else Pv (j + 1) H6) (hd : ∀ H, Pv n H → Nx H) :
    ∃ W1 : Nat → Nat → Hp → Prop, (∃ m, W1 0 m H0) ∧ ∀ j k H, W1 j k H → (J.stop j H ∧ Nx H) ∨ (J.go j H ∧ ∃ Nx1 : Hp → Prop, (∀ H', Nx1 H' → ∃ k', k' < k ∧ W1 (j + 1) k' H') ∧ ∀ x H', J.yld j H x H' → g x (wipe σ vs) H' fun σ3 H5 => wipe σ3 vs = wipe σ vs ∧ tt σ3 H5 fun b H6 =>
        if b = true then te σ3 H6 fun y H7 => ∃ acc, H7 D = some (.lst acc) ∧ acc.length < sizeLine ∧ Nx1 (upd H7 D (.lst (acc ++ [y]))) else Nx1 H6) := by
  refine ⟨fun j k H => k = n - j ∧ j ≤ n ∧ Pv j H, ⟨n, rfl, Nat.zero_le _, h0⟩, fun j k H z => ?_⟩
  obtain ⟨rfl, hj, p⟩ := z
  rcases Nat.lt_or_ge j n with lt | ge
  · exact .inr ⟨w.goes j H lt (hG j H hj p), Pv (j + 1), fun H' p' => ⟨n - (j + 1), by omega, rfl, lt, p'⟩, fun x H' y => hs j x H H' lt p (w.yields j H x H' lt (hG j H hj p) y)⟩
  · obtain rfl : j = n := Nat.le_antisymm hj ge
    exact .inl ⟨w.stops H (hG j H hj p), hd H p⟩
/-- the outer one -/
theorem out_it (w : Walk J n G Y) {g : TG} {tt : TT} {wi1 : TI} {g1 : TG} {tt1 : TT} {te : TE} {vs vs1 : List Nat} {σ : L2.St} {H1 : Hp} {D : Addr} {Qd : Hp → Prop} (Pv : Nat → Hp → Prop) (h0 : Pv 0 (upd H1 D (.lst []))) (hG : ∀ i H, i ≤ n → Pv i H → G H)
    (hs : ∀ i x H H', i < n → Pv i H → Y i H x H' → g x (wipe σ vs) H' fun σ2 H2 => wipe σ2 vs = wipe σ vs ∧ tt σ2 H2 fun b H3 =>
      if b = true then wi1 σ2 H3 fun J1 H4 => ∃ W1 : Nat → Nat → Hp → Prop, (∃ m, W1 0 m H4) ∧ ∀ j k H, W1 j k H →
        (J1.stop j H ∧ Pv (i + 1) H) ∨ (J1.go j H ∧ ∃ Nx1 : Hp → Prop, (∀ H', Nx1 H' → ∃ k', k' < k ∧ W1 (j + 1) k' H') ∧ ∀ x H', J1.yld j H x H' → g1 x (wipe σ2 vs1) H' fun σ3 H5 => wipe σ3 vs1 = wipe σ2 vs1 ∧ tt1 σ3 H5 fun b H6 =>
          if b = true then te σ3 H6 fun y H7 => ∃ acc, H7 D = some (.lst acc) ∧ acc.length < sizeLine ∧ Nx1 (upd H7 D (.lst (acc ++ [y]))) else Nx1 H6)
      else Pv (i + 1) H3) (hd : ∀ H, Pv n H → Qd H) :
    ∃ W : Nat → Nat → Hp → Prop, (∃ m, W 0 m (upd H1 D (.lst []))) ∧ ∀ i m H, W i m H →
      (J.stop i H ∧ Qd H) ∨ (J.go i H ∧ ∃ Nx : Hp → Prop, (∀ H', Nx H' → ∃ m', m' < m ∧ W (i + 1) m' H') ∧ ∀ x H', J.yld i H x H' → g x (wipe σ vs) H' fun σ2 H2 => wipe σ2 vs = wipe σ vs ∧ tt σ2 H2 fun b H3 =>
        if b = true then wi1 σ2 H3 fun J1 H4 => ∃ W1 : Nat → Nat → Hp → Prop, (∃ m, W1 0 m H4) ∧ ∀ j k H, W1 j k H →
          (J1.stop j H ∧ Nx H) ∨ (J1.go j H ∧ ∃ Nx1 : Hp → Prop, (∀ H', Nx1 H' → ∃ k', k' < k ∧ W1 (j + 1) k' H') ∧ ∀ x H', J1.yld j H x H' → g1 x (wipe σ2 vs1) H' fun σ3 H5 => wipe σ3 vs1 = wipe σ2 vs1 ∧ tt1 σ3 H5 fun b H6 =>
            if b = true then te σ3 H6 fun y H7 => ∃ acc, H7 D = some (.lst acc) ∧ acc.length < sizeLine ∧ Nx1 (upd H7 D (.lst (acc ++ [y]))) else Nx1 H6)
        else Nx H3) := by
  refine ⟨fun i m H => m = n - i ∧ i ≤ n ∧ Pv i H, ⟨n, rfl, Nat.zero_le _, h0⟩, fun i m H z => ?_⟩
  obtain ⟨rfl, hi, p⟩ := z
  rcases Nat.lt_or_ge i n with lt | ge
  · exact .inr ⟨w.goes i H lt (hG i H hi p), Pv (i + 1), fun H' p' => ⟨n - (i + 1), by omega, rfl, lt, p'⟩, fun x H' y => hs i x H H' lt p (w.yields i H x H' lt (hG i H hi p) y)⟩
  · obtain rfl : i = n := Nat.le_antisymm hi ge
    exact .inl ⟨w.stops H (hG i H hi p), hd H p⟩
end
end Tl

set_option autoImplicit false
set_option maxErrors 4
namespace K06
open PySem PySem.Spec PyProof.Rows L2 Tl
/-! ### alternatives: rows of runs -/
abbrev RunL := Str × Nat × Option Nat
abbrev RowL := List RunL
def mostK (m : Option Nat) : NestedKey := m.elim .none fun n => .num (n : Nat)
def runK (r : RunL) : NestedKey := .tup [.text r.1, .num (r.2.1 : Nat), mostK r.2.2]
def rowK (r : RowL) : NestedKey := .tup (r.map runK)
theorem mostK_inj {a b : Option Nat} (h : mostK a = mostK b) : a = b := by
  cases a with
  | none =>
    cases b with
    | none => rfl
    | some n => cases h
  | some n =>
    cases b with
    | none => cases h
    | some k =>
      injection h with h
      rw [Int.ofNat.inj h]
theorem runK_inj {a b : RunL} (h : runK a = runK b) : a = b := by
  unfold runK at h
  injection h with h
  injection h with h1 h
  injection h with h2 h
  injection h with h3 _
  injection h1 with h1
  injection h2 with h2
  obtain ⟨a1, a2, a3⟩ := a
  obtain ⟨b1, b2, b3⟩ := b
  dsimp only at h1 h2 h3
  rw [h1, Int.ofNat.inj h2, mostK_inj h3]
theorem map_runK_inj : ∀ {a b : RowL}, a.map runK = b.map runK → a = b
  | [], [], _ => rfl
  | [], _ :: _, h => by cases h
  | _ :: _, [], h => by cases h
  | x :: a, y :: b, h => by
    injection h with h1 h2
    rw [runK_inj h1, map_runK_inj h2]
theorem rowK_inj {a b : RowL} (h : rowK a = rowK b) : a = b := by
  unfold rowK at h
  injection h with h
  exact map_runK_inj h
theorem runK_depth (r : RunL) : (runK r).depth = 1 := by
  obtain ⟨s, l, m⟩ := r
  cases m <;> rfl
theorem rowK_depth (r : RowL) : (rowK r).depth ≤ 2 := by
  have e : ∀ r : RowL, NestedKey.depthAll (r.map runK) ≤ 1 := by
    intro r
    induction r with
    | nil => exact Nat.zero_le _
    | cons x r ih =>
      rw [List.map_cons, NestedKey.depthAll, runK_depth]
      omega
  unfold rowK
  rw [NestedKey.depth]
  have := e r
  omega
/-- alternatives, each where it stands -/
abbrev Rws := List (RowL × Addr)
def rowsV (rs : Rws) : List V := rs.map fun x => V.ref x.2
def RowsAt (H : Hp) (rs : Rws) : Prop := ∀ x ∈ rs, NkV H (rowK x.1) (.ref x.2)
theorem RowsAt.same {H H' : Hp} {rs : Rws} (h : RowsAt H rs) (s : Same H H') : RowsAt H' rs := fun x hx => (h x hx).same s
def putR (rs : Rws) (x : RowL × Addr) : Rws := if x.1 ∈ rs.map (·.1) then rs else rs ++ [x]
def onceR (rs : Rws) : Rws := rs.foldl putR []
def keysR (rs : Rws) : Ks := rs.map fun x => (rowK x.1, x.2)
theorem keysR_put (rs : Rws) (x : RowL × Addr) : putO (keysR rs) (rowK x.1) x.2 = keysR (putR rs x) := by
  have e : (rowK x.1 ∈ (keysR rs).map (·.1)) ↔ x.1 ∈ rs.map (·.1) := by
    unfold keysR
    rw [List.map_map, List.mem_map, List.mem_map]
    constructor
    · rintro ⟨y, hy, h⟩
      exact ⟨y, hy, rowK_inj h⟩
    · rintro ⟨y, hy, h⟩
      exact ⟨y, hy, congrArg rowK h⟩
  unfold putO putR
  by_cases m : x.1 ∈ rs.map (·.1)
  · rw [if_pos (e.mpr m), if_pos m]
  · rw [if_neg (fun z => m (e.mp z)), if_neg m]
    unfold keysR
    rw [List.map_append]
    rfl
theorem putR_length (rs : Rws) (x : RowL × Addr) : (putR rs x).length ≤ rs.length + 1 := by
  unfold putR
  split <;> simp
theorem onceR_take_len (rs : Rws) : ∀ i, ((rs.take i).foldl putR []).length ≤ i := by
  intro i
  induction i with
  | zero => exact Nat.le_refl _
  | succ i ih =>
    by_cases h : i < rs.length
    · rw [fold_take putR [] rs (List.getElem?_eq_getElem h)]
      have := putR_length ((rs.take i).foldl putR []) rs[i]
      omega
    · rw [List.take_of_length_le (by omega)]
      rw [List.take_of_length_le (by omega)] at ih
      omega
theorem putR_sub {rs : Rws} {x y : RowL × Addr} (h : y ∈ putR rs x) : y ∈ rs ∨ y = x := by
  unfold putR at h
  split at h
  · exact .inl h
  · exact (List.mem_append.mp h).imp id List.mem_singleton.mp
theorem onceR_sub {rs : Rws} : ∀ y ∈ onceR rs, y ∈ rs := by
  have key : ∀ (xs acc : Rws), ∀ y ∈ xs.foldl putR acc, y ∈ acc ∨ y ∈ xs := by
    intro xs
    induction xs with
    | nil => exact fun acc y h => .inl h
    | cons x xs ih =>
      intro acc y h
      rcases ih _ y h with h | h
      · rcases putR_sub h with h | h
        · exact .inl h
        · exact .inr (by rw [h]; exact List.mem_cons_self)
      · exact .inr (List.mem_cons_of_mem _ h)
  intro y h
  exact (key rs [] y h).elim (fun z => by cases z) id
section
variable {P : Program} {w : World} {K : PySem.W.Frag} {mg : Str → Option Value} {base : Heap}
def spWr : Sp := fun vs H Q _ => ∃ (l : Addr) (rs : Rws), vs = [.ref l] ∧ H l = some (.lst (rowsV rs)) ∧ RowsAt H rs ∧ rs.length ≤ 1000 ∧ ∀ t H', Same H H' → H t = none → H' t = some (.tup (rowsV (onceR rs))) → Q (.ref t) H'
set_option maxHeartbeats 20000000 in
theorem ok_without {f : Addr} {fd : FuncData} (F : FnP K "without_repeats" "without_repeats" s_without_repeats f fd) (N : Nms mg) : FnOk P w K mg base CX0 1 f fd ["rows"] spWr := by
  have nd := sc_without_repeats.nd
  refine F.ok sc_without_repeats (fun vs H Q E h => ?_) (fun cdv A outer s H vs Q E hr h => ?_)
  · obtain ⟨l, rs, rfl, _⟩ := h
    rfl
  · obtain ⟨l, rs, rfl, hl, at_, len, q⟩ := h
    have hu : (A.deeper (envOfC "without_repeats" (defScope s_without_repeats) s.heap.objs.size f cdv)).units + 8 < cLine := by have := hr.un; omega
    refine ⟨_, PSs.nox (pss_cons (ps_setOrd (i := 2) (own := [("row", 1)]) (g := gName 1) (tt := tYes) rfl hu nd rfl rfl rfl (pi_list (pv 0)) (blkOk_by (N := ["rows", "row", "kept"]) (sc := defScope s_without_repeats) (by decide +kernel))
        (fun _ _ _ _ _ => pg_name (i := 1) nd rfl (Or.inl rfl)) (fun _ _ _ _ _ => pts_nil) (fun _ _ _ _ _ => pv 1) (fun _ _ _ _ _ => pe_bl))
      (pss_one (ps_ret (pe_callTy (call_tupOrd rfl) (by rfl) N.tuple (by decide +kernel) (pa_cons (pv 2) pa_nil))))), ?_⟩
    have lenV : (rowsV rs).length = rs.length := List.length_map _
    refine ⟨_, rfl, l, rfl, ⟨_, SqL.of hl⟩, fun D hD => ?_⟩
    have nDl : l ≠ D := ne_of_none hl hD
    refine ord_it (n := rs.length) (by rw [← lenV]; exact walk_list) (fun i H' => H' D = some (ordO P w D (keysR ((rs.take i).foldl putR []))) ∧ ∀ b o, H b = some o → H' b = some o) ⟨upd_same, fun b o z => by rw [upd_ne (ne_of_none z hD)]; exact z⟩ (fun i H' _ h => SqL.of (h.2 _ _ hl)) ?_ ?_
    · rintro i x _ H2 hi ⟨e, kp⟩ ⟨rfl, hx⟩
      have hx2 : (rowsV rs)[i]? = some (.ref rs[i].2) := by
        unfold rowsV
        rw [List.getElem?_map, List.getElem?_eq_getElem hi]
        rfl
      have ex : x = .ref rs[i].2 := by
        rw [hx2] at hx
        exact (Option.some.inj hx).symm
      subst ex
      refine ⟨rfl, yes_keep ?_⟩
      have low := onceR_take_len rs i
      have same2 : Same H H2 := kp
      have kat : KeysAt H2 (keysR ((rs.take i).foldl putR [])) := fun y hy => by
        unfold keysR at hy
        obtain ⟨z, hz, rfl⟩ := List.mem_map.mp hy
        have zin : z ∈ rs := List.mem_of_mem_take (onceR_sub z hz)
        exact ⟨Nat.le_trans (rowK_depth _) (by decide), (at_ z zin).same same2⟩
      refine ⟨_, rfl, keysR ((rs.take i).foldl putR []), rowK rs[i].1, rs[i].2, rfl, rfl, e, ?_, Nat.le_trans (rowK_depth _) (by decide), (at_ _ (List.getElem_mem hi)).same same2, kat, ?_⟩
      · unfold keysR
        rw [List.length_map]
        exact small1000 (by omega)
      · rw [keysR_put, ← fold_take putR [] rs (List.getElem?_eq_getElem hi)]
        exact ⟨upd_same, fun b o z => by rw [upd_ne (ne_of_none z hD)]; exact kp b o z⟩
    · rintro H2 ⟨e, kp⟩
      rw [List.take_of_length_le (Nat.le_refl _)] at e
      refine name_go ?_
      dsimp only
      refine ⟨_, rfl, D, _, rfl, e, fun t ht => ?_⟩
      have same2 : Same H H2 := kp
      refine q t _ (same2.trans (same_new ht)) (same2.free ht) ?_
      rw [upd_same]
      unfold keysR rowsV onceR
      rw [List.map_map, List.map_map]
      rfl
end
end K06

set_option autoImplicit false
set_option maxErrors 4
namespace K06
open PySem PySem.Spec PyProof.Rows L2 Tl
def RunAt (H : Hp) (b : Addr) (r : RunL) : Prop := H b = some (.tup [.str r.1, .int (r.2.1 : Nat), mostV r.2.2])
theorem mostK_v {H : Hp} {m : Option Nat} {v : V} (h : NkV H (mostK m) v) : v = mostV m := by
  cases m with
  | none =>
    cases h
    rfl
  | some n =>
    cases h
    rfl
theorem mostK_is {H : Hp} (m : Option Nat) : NkV H (mostK m) (mostV m) := by
  cases m with
  | none => exact .non
  | some n => exact .int _
theorem run_at {H : Hp} {r : RunL} {v : V} (h : NkV H (runK r) v) : ∃ b, v = .ref b ∧ RunAt H b r := by
  unfold runK at h
  cases h with
  | tup e al =>
    cases al with
    | cons x1 al =>
      cases al with
      | cons x2 al =>
        cases al with
        | cons x3 al =>
          cases al
          cases x1
          cases x2
          have z := mostK_v x3
          subst z
          exact ⟨_, rfl, e⟩
theorem run_is {H : Hp} {b : Addr} {r : RunL} (h : RunAt H b r) : NkV H (runK r) (.ref b) := .tup h (.cons (.str _) (.cons (.int _) (.cons (mostK_is _) .nil)))
/-- the runs of an alternative, each where it stands -/
abbrev Rns := List (RunL × Addr)
def runsV (bs : Rns) : List V := bs.map fun x => V.ref x.2
theorem row_at {H : Hp} {r : RowL} {a : Addr} (h : NkV H (rowK r) (.ref a)) : ∃ bs : Rns, bs.map (·.1) = r ∧ H a = some (.tup (runsV bs)) ∧ ∀ x ∈ bs, RunAt H x.2 x.1 := by
  have key : ∀ (r : RowL) (vs : List V), NkAll H (r.map runK) vs → ∃ bs : Rns, bs.map (·.1) = r ∧ vs = runsV bs ∧ ∀ x ∈ bs, RunAt H x.2 x.1 := by
    intro r
    induction r with
    | nil =>
      intro vs h
      cases h
      exact ⟨[], rfl, rfl, fun x hx => by cases hx⟩
    | cons x r ih =>
      intro vs h
      cases h with
      | cons h1 h2 =>
        obtain ⟨b, rfl, hb⟩ := run_at h1
        obtain ⟨bs, e1, rfl, e3⟩ := ih _ h2
        refine ⟨(x, b) :: bs, by rw [List.map_cons, e1], rfl, fun y hy => ?_⟩
        rcases List.mem_cons.mp hy with rfl | hy
        · exact hb
        · exact e3 y hy
  unfold rowK at h
  cases h with
  | tup e al =>
    obtain ⟨bs, e1, rfl, e3⟩ := key _ _ al
    exact ⟨bs, e1, e, e3⟩
theorem row_is {H : Hp} {a : Addr} {bs : Rns} (h : H a = some (.tup (runsV bs))) (hb : ∀ x ∈ bs, RunAt H x.2 x.1) : NkV H (rowK (bs.map (·.1))) (.ref a) := by
  have key : ∀ bs : Rns, (∀ x ∈ bs, RunAt H x.2 x.1) → NkAll H ((bs.map (·.1)).map runK) (runsV bs) := by
    intro bs
    induction bs with
    | nil => exact fun _ => .nil
    | cons x r ih => exact fun h => .cons (run_is (h x List.mem_cons_self)) (ih fun y hy => h y (List.mem_cons_of_mem _ hy))
  exact .tup h (key bs hb)
def pcR (r : RunL) : Nat := pcL r.2.1 r.2.2
def placesR (r : RowL) : List Nat := r.map pcR
def placesRs (rs : Rws) : List Nat := rs.flatMap fun x => placesR x.1
/-- too many alternatives, runs, places -/
def tooLarge (rs : Rws) : Bool := decide (20 < rs.length) || (rs.any fun x => decide (20 < x.1.length)) || decide (120 < (placesRs rs).sum)
def rLenSeq (K : PySem.W.Frag) : List V → Hp → VK → Prop := fun xs H Q => ∃ p ys, xs = [V.ref p] ∧ (SqL K H p ys ∨ SqT K H p ys) ∧ Q (V.int (ys.length : Nat)) H
theorem sum_cast (xs : List Nat) : (xs.map fun x : Nat => (x : Int)).sum = ((xs.sum : Nat) : Int) := by
  induction xs with
  | nil => rfl
  | cons x r ih =>
    rw [List.map_cons, List.sum_cons, List.sum_cons, ih]
    push_cast
    rfl
/-- the bounds of the kinds, by their names -/
structure Cons (mg : Str → Option Value) : Prop where
  start : ∃ t, mg "START" = some (.int 1 t)
  alt : ∃ t, mg "MOST_ALTERNATIVES" = some (.int 20 t)
  runs : ∃ t, mg "MOST_RUNS" = some (.int 20 t)
  places : ∃ t, mg "MOST_PLACES" = some (.int 120 t)
  texts : ∃ t, mg "MOST_TEXTS" = some (.int 20 t)
  text : ∃ t, mg "LONGEST_TEXT" = some (.int 20 t)
  bound : ∃ t, mg "HIGHEST_BOUND" = some (.int 40 t)
  times : ∃ t, mg "MOST_OPERANDS" = some (.int 9 t)
theorem placesRs_len {rs : Rws} (h : ∀ x ∈ rs, x.1.length ≤ 20) : (placesRs rs).length ≤ rs.length * 20 := by
  unfold placesRs placesR
  induction rs with
  | nil => exact Nat.le_refl _
  | cons x r ih =>
    have h1 := h x List.mem_cons_self
    have h2 := ih fun y hy => h y (List.mem_cons_of_mem _ hy)
    rw [List.flatMap_cons, List.length_append, List.length_map, List.length_cons]
    omega
theorem placesRs_succ (rs : Rws) {i : Nat} (h : i < rs.length) : placesRs (rs.take (i + 1)) = placesRs (rs.take i) ++ placesR rs[i].1 := by
  unfold placesRs
  rw [List.take_add_one, List.getElem?_eq_getElem h, List.flatMap_append]
  simp
section
variable {P : Program} {w : World} {K : PySem.W.Frag} {mg : Str → Option Value} {base : Heap}
def spToo : Sp := fun vs H Q _ => ∃ (t : Addr) (rs : Rws), vs = [.ref t] ∧ H t = some (.tup (rowsV rs)) ∧ RowsAt H rs ∧ rs.length ≤ 1000 ∧ ∀ H', Same H H' → Q (.bl (tooLarge rs)) H'
set_option maxHeartbeats 20000000 in
theorem ok_too {f : Addr} {fd : FuncData} (F : FnP K "is_too_large" "is_too_large" s_is_too_large f fd) (N : Nms mg) (Co : Cons mg) (C : Can P w K mg base CX0 "place_count" ["least", "most"] 1 spPc) : FnOk P w K mg base CX0 2 f fd ["rows"] spToo := by
  obtain ⟨fC, fdC, GC, gC, kC, bC⟩ := C
  obtain ⟨tA, gA⟩ := Co.alt
  obtain ⟨tR, gR⟩ := Co.runs
  obtain ⟨tP, gP⟩ := Co.places
  have nd := sc_is_too_large.nd
  refine F.ok sc_is_too_large (fun vs H Q E h => ?_) (fun cdv A outer s H vs Q E hr h => ?_)
  · obtain ⟨t, rs, rfl, _⟩ := h
    rfl
  · obtain ⟨t, rs, rfl, ht, at_, len, q⟩ := h
    refine ⟨_, PSs.nox (pss_cons (ps_if (PW.pt (pw_or (pt_cmpR op_gt (pe_callB call_len_seq (by rfl) N.len PySem.boot_len (pa_cons (pv 0) pa_nil)) (pe_glob (v := .int 20) (by rfl) gA ⟨_, rfl⟩) (nomark _))
          (pw_or1 (pt_val (pe_callB (cr_any rfl) (by rfl) N.any (by decide +kernel) (pa_cons (pe_lc (own := [("row", 1)]) (g := gName 1) (tt := tYes) rfl nd (pi_tup (pv 0)) (blkOk_by (N := ["rows", "row", "signs", "least", "most"]) (sc := defScope s_is_too_large) (by decide +kernel))
            (fun _ _ _ _ _ => pg_name (i := 1) nd rfl (Or.inl rfl)) (fun _ _ _ _ _ => pts_nil) (fun _ _ _ _ _ => pe_cmpR op_gt (pe_callB (r := rLenSeq K) call_len_seq (by rfl) N.len PySem.boot_len (pa_cons (pv 1) pa_nil)) (pe_glob (v := .int 20) (by rfl) gR ⟨_, rfl⟩) (nomark _))) pa_nil))))))
        (pss_one (ps_ret pe_bl)) pss_nil)
      (pss_one (ps_ret (pe_cmpR op_gt (pe_callB (cr_sum rfl) (by rfl) N.sum (by decide +kernel) (pa_cons (pe_lc2 (own := [("row", 1), ("signs", 2), ("least", 3), ("most", 4)]) (vs1 := [2, 3, 4]) (g := gName 1) (tt := tYes) (wi1 := iTup K (tVar 1)) (g1 := gTup K 3 (gCons (gName 2) (gCons (gName 3) (gCons (gName 4) gNil)))) (tt1 := tYes) rfl nd (pi_tup (pv 0))
          (blkOk_by (N := ["rows", "row", "signs", "least", "most"]) (sc := defScope s_is_too_large) (by decide +kernel)) (by decide) (fun _ _ _ _ _ => pg_name (i := 1) nd rfl (Or.inl rfl)) (fun _ _ _ _ _ => pts_nil) (fun _ _ _ _ _ => pi_tup (pv 1))
          (fun _ _ _ _ _ => pg_tup rfl (pgs_cons (pg_name (i := 2) nd rfl (Or.inl rfl) (Or.inr rfl)) (pgs_cons (pg_name (i := 3) nd rfl (Or.inl rfl) (Or.inr rfl)) (pgs_cons (pg_name (i := 4) nd rfl (Or.inl rfl) (Or.inr rfl)) pgs_nil)))) (fun _ _ _ _ _ => pts_nil)
          (fun _ _ _ _ _ => pe_call GC hr (by rfl) gC kC bC .nil pass0 (pa_cons (pv 3) (pa_cons (pv 4) pa_nil)))) pa_nil)) (pe_glob (v := .int 120) (by rfl) gP ⟨_, rfl⟩) (nomark _))))), ?_⟩
    have lenV : (rowsV rs).length = rs.length := List.length_map _
    refine ⟨_, rfl, t, _, rfl, .inr (SqT.of ht), ?_⟩
    rw [lenV]
    refine ⟨_, _, rfl, rfl, _, rfl, ?_⟩
    have getV : ∀ {i : Nat} (hi : i < rs.length) {x : V}, (rowsV rs)[i]? = some x → x = .ref rs[i].2 := fun {i} hi {x} hx => by
      unfold rowsV at hx
      rw [List.getElem?_map, List.getElem?_eq_getElem hi] at hx
      exact (Option.some.inj hx).symm
    by_cases c1 : 20 < rs.length
    · have d1 : decide ((20 : Int) < ((rs.length : Nat) : Int)) = true := decide_eq_true (by omega)
      refine (if_pos d1).mpr ?_
      refine iteT ?_
      have e : tooLarge rs = true := by unfold tooLarge; simp [c1]
      rw [e] at q
      exact q H (Same.refl H)
    have d1 : ¬ decide ((20 : Int) < ((rs.length : Nat) : Int)) = true := by simp; omega
    refine (if_neg d1).mpr ?_
    refine ⟨_, rfl, t, rfl, ⟨_, SqT.of ht⟩, fun D hD => ?_⟩
    refine lc_it (n := rs.length) (by rw [← lenV]; exact walk_tup) (fun i H' => H' D = some (.lst ((rs.take i).map fun x => V.bl (decide (20 < x.1.length)))) ∧ Same H H') ⟨upd_same, same_new hD⟩ (fun i H' _ h => SqT.of (h.2 _ _ ht)) ?_ ?_
    · rintro i x _ H2 hi ⟨e, sm⟩ ⟨rfl, hx⟩
      have ex := getV hi hx
      subst ex
      obtain ⟨bs, e1, e2, _⟩ := row_at ((at_ _ (List.getElem_mem hi)).same sm)
      refine ⟨rfl, yes_keep ?_⟩
      refine ⟨_, rfl, rs[i].2, _, rfl, .inr (SqT.of e2), _, _, rfl, rfl, _, e, ?_, ?_, fun b o z => ?_⟩
      · rw [List.length_map, List.length_take]
        exact small1000 (by omega)
      · rw [upd_same, List.take_add_one, List.getElem?_eq_getElem hi, List.map_append]
        have el : (runsV bs).length = rs[i].1.length := by
          rw [← e1]
          unfold runsV
          rw [List.length_map, List.length_map]
        rw [el]
        have ed : decide ((20 : Int) < ((rs[i].1.length : Nat) : Int)) = decide (20 < rs[i].1.length) := by
          rw [decide_eq_decide]
          omega
        dsimp only
        rw [ed]
        rfl
      · rw [upd_ne (ne_of_none z hD)]
        exact sm _ _ z
    · rintro H1 ⟨e, s1⟩
      rw [List.take_of_length_le (Nat.le_refl _)] at e
      have ee : (rs.map fun x => V.bl (decide (20 < x.1.length))) = (rs.map fun x => decide (20 < x.1.length)).map V.bl := by
        rw [List.map_map]
        rfl
      rw [ee] at e
      refine ⟨D, _, rfl, SqL.of e, _, rfl, ?_⟩
      have ea : (rs.map fun x => decide (20 < x.1.length)).any id = rs.any fun x => decide (20 < x.1.length) := by
        rw [List.any_map]
        rfl
      rw [ea]
      by_cases c2 : (rs.any fun x => decide (20 < x.1.length)) = true
      · rw [c2]
        refine iteT ?_
        have e : tooLarge rs = true := by unfold tooLarge; simp [c2]
        rw [e] at q
        exact q H1 s1
      have c2f : (rs.any fun x => decide (20 < x.1.length)) = false := by simpa using c2
      rw [c2f]
      refine iteF ?_
      dsimp only
      have few : ∀ x ∈ rs, x.1.length ≤ 20 := fun x hx => by
        have z := List.any_eq_false.mp c2f x hx
        simp only [decide_eq_true_eq] at z
        omega
      refine ⟨_, rfl, t, rfl, ⟨_, SqT.of (s1 _ _ ht)⟩, fun D2 hD2 => ?_⟩
      refine out_it (n := rs.length) (by rw [← lenV]; exact walk_tup) (fun i H' => H' D2 = some (.lst (intsV (placesRs (rs.take i)))) ∧ Same H1 H') ⟨upd_same, same_new hD2⟩ (fun i H' _ h => SqT.of (h.2 _ _ (s1 _ _ ht))) ?_ ?_
      · rintro i x _ H2 hi ⟨e, sm⟩ ⟨rfl, hx⟩
        have ex := getV hi hx
        subst ex
        obtain ⟨bs, e1, e2, e3⟩ := row_at ((at_ _ (List.getElem_mem hi)).same s1)
        have lb : (runsV bs).length = bs.length := List.length_map _
        have lr : bs.length = rs[i].1.length := by rw [← e1, List.length_map]
        have f20 := few _ (List.getElem_mem hi)
        have fl : (placesRs (rs.take i)).length ≤ 20 * 20 := Nat.le_trans (placesRs_len fun x hx => few x (List.mem_of_mem_take hx)) (by rw [List.length_take]; exact Nat.mul_le_mul_right _ (by omega))
        refine ⟨rfl, yes_keep ?_⟩
        refine ⟨_, rfl, rs[i].2, rfl, ⟨_, SqT.of (sm _ _ e2)⟩, ?_⟩
        refine in_it (n := bs.length) (by rw [← lb]; exact walk_tup) (fun j H' => H' D2 = some (.lst (intsV (placesRs (rs.take i) ++ placesR (rs[i].1.take j)))) ∧ Same H1 H') ⟨by rw [List.take_zero]; unfold placesR; rw [List.map_nil, List.append_nil]; exact e, sm⟩ (fun j H' _ h => SqT.of (h.2 _ _ e2)) ?_ ?_
        · rintro j y _ H3 hj ⟨e4, s4⟩ ⟨rfl, hy⟩
          have ey : y = .ref bs[j].2 := by
            unfold runsV at hy
            rw [List.getElem?_map, List.getElem?_eq_getElem hj] at hy
            exact (Option.some.inj hy).symm
          subst ey
          have ra : H3 bs[j].2 = some (.tup [.str bs[j].1.1, .int (bs[j].1.2.1 : Nat), mostV bs[j].1.2.2]) := s4 _ _ (e3 _ (List.getElem_mem hj))
          refine ⟨bs[j].2, _, rfl, SqT.of ra, rfl, _, _, rfl, _, _, rfl, _, _, rfl, rfl, rfl, yes_keep ?_⟩
          refine ⟨_, rfl, _, rfl, bs[j].1.2.1, bs[j].1.2.2, rfl, _, e4, ?_, ?_, fun b o z => ?_⟩
          · rw [intsV_len, List.length_append]
            unfold placesR
            rw [List.length_map, List.length_take]
            exact small1000 (by omega)
          · rw [upd_same]
            have hjr : j < rs[i].1.length := by omega
            have er : rs[i].1[j]? = some bs[j].1 := by
              rw [← e1, List.getElem?_map, List.getElem?_eq_getElem hj]
              rfl
            have et : rs[i].1.take (j + 1) = rs[i].1.take j ++ [bs[j].1] := by
              rw [List.take_add_one, er]
              rfl
            rw [et]
            unfold placesR
            rw [List.map_append, ← List.append_assoc, ← intsV_app (placesRs (rs.take i) ++ (rs[i].1.take j).map pcR)]
            rfl
          · rw [upd_ne (ne_of_none z hD2)]
            exact s4 _ _ z
        · rintro H3 ⟨e4, s4⟩
          refine ⟨?_, s4⟩
          rw [placesRs_succ rs hi, e4, lr, List.take_of_length_le (Nat.le_refl _)]
      · rintro H2 ⟨e, sm⟩
        rw [List.take_of_length_le (Nat.le_refl _)] at e
        have ei : intsV (placesRs rs) = ((placesRs rs).map fun x : Nat => (x : Int)).map V.int := by
          unfold intsV
          rw [List.map_map]
          rfl
        rw [ei] at e
        refine ⟨D2, _, rfl, SqL.of e, _, _, rfl, rfl, ?_⟩
        rw [sum_cast]
        have et : tooLarge rs = decide ((120 : Int) < (((placesRs rs).sum : Nat) : Int)) := by
          unfold tooLarge
          rw [c2f, decide_eq_false c1, Bool.false_or, Bool.false_or, decide_eq_decide]
          omega
        rw [et] at q
        exact q H2 (s1.trans sm)
end
end K06

set_option autoImplicit false
set_option maxErrors 4
namespace K06
open PySem PySem.Spec PyProof.Rows L2 Tl
def runN (r : RunL) : LNet := runL r.1 r.2.1 r.2.2
def altN (r : RowL) : LNet := chainL (r.map runN)
def kindN (rs : List RowL) : LNet := sideL (rs.map altN)
/-- a run within the bounds -/
def RunOk (r : RunL) : Prop := r.1.cps.size ≤ 1000 ∧ (∀ n, r.2.2 = some n → r.2.1 ≤ n) ∧ pcR r ≤ 500
theorem runN_chars (r : RunL) : (runN r).chars.length = pcR r := by
  unfold runN runL pcR
  exact List.length_replicate
theorem runN_ok {r : RunL} (h : RunOk r) : (runN r).Ok := runL_ok h.1 h.2.1 (Nat.le_trans h.2.2 (by decide))
theorem charsOf_runs (r : RowL) : charsOf (r.map runN) = (placesR r).sum := by
  unfold charsOf placesR
  rw [List.map_map]
  congr 1
  exact List.map_congr_left fun x _ => runN_chars x
theorem chain_ok : ∀ (ns : List LNet) (acc : LNet), acc.Ok → (∀ n ∈ ns, n.Ok) → acc.chars.length + charsOf ns ≤ 1000 → (ns.foldl chainStep acc).Ok ∧ (ns.foldl chainStep acc).chars.length = acc.chars.length + charsOf ns
  | [], acc, ok, _, _ => ⟨ok, by unfold charsOf; simp⟩
  | n :: ns, acc, ok, all, small => by
    have c : charsOf (n :: ns) = n.chars.length + charsOf ns := by unfold charsOf; simp
    have cl : (chainStep acc n).chars.length = acc.chars.length + n.chars.length := by
      unfold chainStep
      exact List.length_append
    obtain ⟨r1, r2⟩ := chain_ok ns (chainStep acc n) (chainStep_ok ok (all n List.mem_cons_self) (by omega)) (fun x hx => all x (List.mem_cons_of_mem _ hx)) (by omega)
    exact ⟨r1, by rw [List.foldl_cons, r2]; omega⟩
theorem altN_ok {r : RowL} (h : ∀ x ∈ r, RunOk x) (small : (placesR r).sum ≤ 500) : (altN r).Ok ∧ (altN r).chars.length = (placesR r).sum := by
  have z := chain_ok (r.map runN) chain0 chain0_ok (fun n hn => by
    obtain ⟨x, hx, rfl⟩ := List.mem_map.mp hn
    exact runN_ok (h x hx)) (by rw [charsOf_runs]; show 0 + _ ≤ 1000; omega)
  refine ⟨z.1, ?_⟩
  show (List.foldl chainStep chain0 (r.map runN)).chars.length = _
  rw [z.2, charsOf_runs]
  show 0 + _ = _
  omega
/-- a net that has nothing at D -/
def NetOff (NC D : Addr) (H : Hp) (r : Addr) (n : LNet) : Prop := ∃ dx c f d, (r ≠ D ∧ c ≠ D ∧ f ≠ D ∧ d ≠ D) ∧ H r = some (.ins NC dx [("chars", .ref c), ("follow", .ref f), ("exits", .int (n.exits : Nat)), ("stands_for", .ref d)]) ∧ H c = some (.lst (strsV n.chars)) ∧ H f = some (.lst (intsV n.follow)) ∧ H d = some (.dK (standsFor n.chars))
theorem NetOff.at {NC D : Addr} {H : Hp} {r : Addr} {n : LNet} (h : NetOff NC D H r n) : NetAt NC H r n := by
  obtain ⟨dx, c, f, d, _, h⟩ := h
  exact ⟨dx, c, f, d, h⟩
theorem NetOff.same {NC D : Addr} {H H' : Hp} {r : Addr} {n : LNet} (h : NetOff NC D H r n) (s : ∀ b o, b ≠ D → H b = some o → H' b = some o) : NetOff NC D H' r n := by
  obtain ⟨dx, c, f, d, ⟨n1, n2, n3, n4⟩, h1, h2, h3, h4⟩ := h
  exact ⟨dx, c, f, d, ⟨n1, n2, n3, n4⟩, s _ _ n1 h1, s _ _ n2 h2, s _ _ n3 h3, s _ _ n4 h4⟩
theorem NetNew.off {NC D : Addr} {H H' : Hp} {r c f : Addr} {n : LNet} {o : HO} (h : NetNew NC H H' r c f n) (hr : H r = none) (hc : H c = none) (hf : H f = none) (hD : H D = some o) : NetOff NC D H' r n := by
  obtain ⟨dx, d, h0, h⟩ := h
  have ne : ∀ {x : Addr}, H x = none → x ≠ D := fun {x} z e => by
    rw [e, hD] at z
    cases z
  exact ⟨dx, c, f, d, ⟨ne hr, ne hc, ne hf, ne h0⟩, h⟩
section
variable {P : Program} {w : World} {K : PySem.W.Frag} {mg : Str → Option Value} {base : Heap} {NC : Addr}
def spAlt (NC : Addr) : Sp := fun vs H Q _ => ∃ (a : Addr) (r : RowL), vs = [.ref a] ∧ NkV H (rowK r) (.ref a) ∧ (∀ x ∈ r, RunOk x) ∧ (placesR r).sum ≤ 500 ∧ r.length ≤ 500 ∧ GivesNet NC H Q (altN r)
set_option maxHeartbeats 20000000 in
theorem ok_alt {f : Addr} {fd : FuncData} (F : FnP K "alternative_net" "alternative_net" s_alternative_net f fd) (C : Can P w K mg base CX0 "chained" ["nets"] 4 (spNets NC chainL)) (R : Can P w K mg base CX0 "run_net" ["signs", "least", "most"] 4 (spRunNet NC)) : FnOk P w K mg base CX0 5 f fd ["row"] (spAlt NC) := by
  obtain ⟨fC, fdC, GC, gC, kC, bC⟩ := C
  obtain ⟨fR, fdR, GR, gR, kR, bR⟩ := R
  have nd := sc_alternative_net.nd
  refine F.ok sc_alternative_net (fun vs H Q E h => ?_) (fun cdv A outer s H vs Q E hr h => ?_)
  · obtain ⟨a, r, rfl, _⟩ := h
    rfl
  · obtain ⟨a, r, rfl, nk, ok, small, len, q⟩ := h
    refine ⟨_, PSs.nox (pss_one (ps_ret (pe_call GC hr (by rfl) gC kC bC .nil pass0 (pa_cons (pe_lc (own := [("signs", 1), ("least", 2), ("most", 3)]) (g := gTup K 3 (gCons (gName 1) (gCons (gName 2) (gCons (gName 3) gNil)))) (tt := tYes) rfl nd (pi_tup (pv 0)) (blkOk_by (N := ["row", "signs", "least", "most"]) (sc := defScope s_alternative_net) (by decide +kernel))
        (fun _ _ _ _ _ => pg_tup rfl (pgs_cons (pg_name (i := 1) nd rfl (Or.inl rfl) (Or.inr rfl)) (pgs_cons (pg_name (i := 2) nd rfl (Or.inl rfl) (Or.inr rfl)) (pgs_cons (pg_name (i := 3) nd rfl (Or.inl rfl) (Or.inr rfl)) pgs_nil)))) (fun _ _ _ _ _ => pts_nil)
        (fun _ _ _ _ _ => pe_call GR hr (by rfl) gR kR bR .nil pass0 (pa_cons (pv 1) (pa_cons (pv 2) (pa_cons (pv 3) pa_nil))))) pa_nil)))), ?_⟩
    obtain ⟨bs, e1, e2, e3⟩ := row_at nk
    have lb : (runsV bs).length = bs.length := List.length_map _
    have lr : bs.length = r.length := by rw [← e1, List.length_map]
    refine ⟨_, rfl, a, rfl, ⟨_, SqT.of e2⟩, fun D hD => ?_⟩
    refine lc_it (n := bs.length) (by rw [← lb]; exact walk_tup) (fun j H' => ∃ ps : Prs, H' D = some (.lst (refsP ps)) ∧ netsP ps = (r.take j).map runN ∧ (∀ x ∈ ps, NetOff NC D H' x.1 x.2 ∧ x.2.Ok) ∧ Same H H') ⟨[], upd_same, rfl, (fun x hx => by cases hx), same_new hD⟩ (fun j H' _ h => by
      obtain ⟨_, _, _, _, sm⟩ := h
      exact SqT.of (sm _ _ e2)) ?_ ?_
    · rintro j y _ H3 hj ⟨ps, e4, en, na, sm⟩ ⟨rfl, hy⟩
      have ey : y = .ref bs[j].2 := by
        unfold runsV at hy
        rw [List.getElem?_map, List.getElem?_eq_getElem hj] at hy
        exact (Option.some.inj hy).symm
      subst ey
      have ra : H3 bs[j].2 = some (.tup [.str bs[j].1.1, .int (bs[j].1.2.1 : Nat), mostV bs[j].1.2.2]) := sm _ _ (e3 _ (List.getElem_mem hj))
      have er : r[j]? = some bs[j].1 := by
        rw [← e1, List.getElem?_map, List.getElem?_eq_getElem hj]
        rfl
      obtain ⟨o1, o2, o3⟩ := ok _ (List.mem_of_getElem? er)
      refine ⟨bs[j].2, _, rfl, SqT.of ra, rfl, _, _, rfl, _, _, rfl, _, _, rfl, rfl, rfl, yes_keep ?_⟩
      refine ⟨_, rfl, _, rfl, _, rfl, bs[j].1.1, bs[j].1.2.1, bs[j].1.2.2, rfl, o1, o2, o3, fun n nc nf H4 s4 hn0 hnc hnf nat => ?_⟩
      have eD := s4 _ _ e4
      have lp : ps.length = j := by
        have z := congrArg List.length en
        unfold netsP at z
        rw [List.length_map, List.length_map, List.length_take] at z
        omega
      have nD : n ≠ D := fun z => by
        rw [z, e4] at hn0
        cases hn0
      have keep : ∀ b o, b ≠ D → H4 b = some o → (upd H4 D (.lst (refsP ps ++ [.ref n]))) b = some o := fun b o nb z => by
        rw [upd_ne nb]
        exact z
      refine ⟨_, eD, ?_, ps ++ [(n, runN bs[j].1)], ?_, ?_, ?_, fun b o z => ?_⟩
      · unfold refsP
        rw [List.length_map, lp]
        exact small1000 (by omega)
      · rw [upd_same]
        unfold refsP
        rw [List.map_append]
        rfl
      · unfold netsP at en ⊢
        rw [List.map_append, en, List.take_add_one, er, List.map_append]
        rfl
      · intro x hx
        have off : ∀ b o, b ≠ D → H4 b = some o → (upd H4 D (.lst (refsP ps ++ [.ref n]))) b = some o := keep
        rcases List.mem_append.mp hx with hx | hx
        · exact ⟨((na x hx).1.same fun b o _ z => s4 _ _ z).same off, (na x hx).2⟩
        · rw [List.mem_singleton.mp hx]
          exact ⟨(nat.off hn0 hnc hnf e4).same off, runN_ok ⟨o1, o2, o3⟩⟩
      · rw [upd_ne (ne_of_none z hD)]
        exact s4 _ _ (sm _ _ z)
    · rintro H1 ⟨ps, e4, en, na, sm⟩
      rw [lr, List.take_of_length_le (Nat.le_refl _)] at en
      refine ⟨D, ps, rfl, e4, fun x hx => ⟨(na x hx).1.at, (na x hx).2⟩, ?_, ?_⟩
      · rw [en, charsOf_runs]
        exact small
      · rw [en]
        exact fun n nc nf H2 s2 hn hc hf at_ => q n nc nf H2 (sm.trans s2) (sm.free hn) (sm.free hc) (sm.free hf) (at_.of sm)
end
end K06

/-! bool(a) of an own class, bool(text). -/
namespace Tl
open PySem PySem.Spec PyProof.Rows L2
theorem bool_by {prog : Program} {w : World} (v : Value) :
    MeetsIn prog w (Builtin.«bool.__new__» ⟨[.type "bool", v], []⟩) (fun A R s => wpAny (model prog w) A.in1 (truthy v) (fun b s' => R (.ok (.ret (.bool b))) s') (fun e s' => R (.error e) s') s) := by
  intro A R s h
  have f1 := F.conv_sub_bool
  obtain ⟨hp, g, d, tk, os⟩ := s
  unfold Builtin.«bool.__new__»
  generalize hT : truthy = TR at h ⊢
  repeat (any_goals (first | assumption | wp_step))
  all_goals skip
  exact wpAny_mono h (fun b s' q => wpAny_pure q) fun _ _ z => z
theorem call_bool_by {prog : Program} {w : World} {A : Around} {E : Value → Shared → Prop} {s : Shared} {v : Value} {Q : Value → Shared → Prop}
    (h : wpAny (model prog w) A.in1.in1 (truthy v) (fun b s' => Q (.bool b) s') E s) : wpAny (model prog w) A (call (.type "bool") [v]) Q E s :=
  callType_newIn F.called_bool F.newNe_bool (F.typeCall_bool_1 v) (F.newCall_bool_1 v) (fun obj => F.args_object_init_2 obj v) F.entry_bool_new (bool_by v)
    (wpAny_mono h (fun b s' q => ⟨rfl, q⟩) fun _ _ z => z)
section
variable {X : Cx} {CX : CXT} {k : Nat} {C f : Addr} {fd : FuncData} {ps : List Str} {sp : Sp} {E : XK}
/-- bool(a), a an instance of C with an own __bool__ -/
def rBoolO (C : Addr) (sp : Sp) (E : XK) : List V → Hp → VK → Prop := fun xs H Q => ∃ a dx fs, xs = [.ref a] ∧ H a = some (.ins C dx fs) ∧ sp [.ref a] H (fun v H' => ∃ b, v = .bl b ∧ Q (.bl b) H') E
theorem call_boolO (M : OpC X.K C "__bool__" f) (F : FnOk X.prog X.w X.K X.mg X.base CX k f fd ps sp) (hr : Room (k + 2) X.A) (hb : Binds X.K fd ps []) (hx : Passes CX X E) : CallR X (.type "bool") (rBoolO C sp E) := by
  intro pins s σ H xs us Q I r h
  obtain ⟨a, dx, fs, rfl, ha, q⟩ := h
  rw [Vals.ref1 r]
  obtain ⟨oa, da, Ja⟩ := inst_of I ha
  obtain ⟨mm, Fm⟩ := I.fr
  have hl : ([Value.ref a] ++ []).length = ps.length := by
    rw [← F.len _ _ _ _ q]
    rfl
  refine call_bool_by (PySem.W.truthy_K Fm I.mod.kin Ja M.at_ M.fn (wpAny_call (codeAny_mono (F.run X.A.in1.in1 X.stack s H ⟨[.ref a], []⟩ [.ref a] [.ref a] _ E hr.in1.in1 I.env0.in1.in1 (hb _ [.ref a] I.kIn hl) (.cons (relRef _) .nil) q) fun r s' hq => ?_)))
  cases r with
  | error er => exact hx pins σ H s er s' I hq
  | ok fl =>
    cases fl with
    | ret u =>
      obtain ⟨v, H', I3, rv, b, rfl, q3⟩ := I.after hq
      cases rv
      exact ⟨.bl b, H', I3, rfl, q3⟩
    | next => exact False.elim hq
    | brk => exact False.elim hq
    | cont => exact False.elim hq
/-- bool(z) of a text -/
theorem call_boolTx : CallR X (.type "bool") (fun xs H Q => ∃ l : List Nat, xs = [.str (tx l)] ∧ l.length ≤ 16777216 ∧ Q (.bl (!l.isEmpty)) H) := by
  intro pins s σ H xs us Q I r h
  obtain ⟨l, rfl, hl, q⟩ := h
  obtain ⟨u, rfl, t, rfl⟩ := vals1 r
  have e : (((tx l).length : Int) != 0) = !l.isEmpty := by
    rw [len_tx]
    cases l with
    | nil => rfl
    | cons x l2 =>
      rw [List.length_cons]
      show ((((l2.length + 1 : Nat) : Int) != 0)) = true
      rw [bne_iff_ne]
      omega
  refine call_bool_str (by rw [len_tx]; omega) ⟨.bl (!l.isEmpty), H, I.tok _, by rw [e]; rfl, q⟩
end
end Tl

set_option autoImplicit false
set_option maxErrors 4
namespace K06
open PySem PySem.Spec PyProof.Rows L2 Tl
/-! ### the mathematics of sets of signs: an ascending list of codes -/
def norm (l : List Nat) : List Nat := alpha.filter fun n => decide (n ∈ l)
theorem mem_norm {l : List Nat} (h : ∀ n ∈ l, n ∈ alpha) (n : Nat) : n ∈ norm l ↔ n ∈ l := by
  unfold norm
  rw [List.mem_filter, decide_eq_true_eq]
  exact ⟨fun x => x.2, fun x => ⟨h n x, x⟩⟩
theorem norm_sub (l : List Nat) : ∀ n ∈ norm l, n ∈ alpha := fun n h => (List.mem_filter.mp h).1
theorem norm_congr {l k : List Nat} (h : ∀ n ∈ alpha, n ∈ l ↔ n ∈ k) : norm l = norm k := by
  unfold norm
  exact List.filter_congr fun n hn => by
    rw [decide_eq_decide]
    exact h n hn
theorem norm_norm (l : List Nat) : norm (norm l) = norm l := norm_congr fun n hn => by
  unfold norm
  rw [List.mem_filter, decide_eq_true_eq]
  exact ⟨fun x => x.2, fun x => ⟨hn, x⟩⟩
theorem norm_len (l : List Nat) : (norm l).length ≤ 94 := by
  have h := List.length_filter_le (fun n => decide (n ∈ l)) alpha
  rw [alpha_len] at h
  exact h
theorem norm_filter (l : List Nat) (p : Nat → Bool) : (norm l).filter p = norm ((norm l).filter p) := by
  have e : norm ((norm l).filter p) = alpha.filter fun n => decide (n ∈ l) && p n := by
    unfold norm
    refine List.filter_congr fun n hn => ?_
    rw [Bool.eq_iff_iff, decide_eq_true_eq, List.mem_filter, List.mem_filter, Bool.and_eq_true]
    exact ⟨fun x => ⟨x.1.2, x.2⟩, fun x => ⟨⟨hn, x.1⟩, x.2⟩⟩
  rw [e]
  unfold norm
  rw [List.filter_filter]
  exact List.filter_congr fun n _ => Bool.and_comm _ _
/-! ### the class Signs -/
/-- the attributes of a set of the signs S -/
def flS (S : List Nat) : List (Str × V) := [("signs", .str (tx S))]
theorem flS_signs (S : List Nat) : (flS S).lookup ("signs" : Str) = some (.str (tx S)) := by
  unfold flS
  simp [List.lookup]
theorem flS_no (S : List Nat) {m : Str} (h : ¬ m = "signs") : (flS S).lookup m = none := by
  unfold flS
  have e : (m == ("signs" : Str)) = false := by simpa using h
  simp [List.lookup, e]
/-- a set of signs stands at a -/
structure Sg (C : Addr) (H : Hp) (a : Addr) (S : List Nat) : Prop where
  ob : ∃ dx, H a = some (.ins C dx (flS S))
  can : norm S = S
theorem Sg.at {C : Addr} {H H' : Hp} {a : Addr} {S : List Nat} (h : Sg C H a S) (k : ∀ o, H a = some o → H' a = some o) : Sg C H' a S := by
  obtain ⟨⟨dx, e⟩, c⟩ := h
  exact ⟨⟨dx, k _ e⟩, c⟩
theorem Sg.len {C : Addr} {H : Hp} {a : Addr} {S : List Nat} (h : Sg C H a S) : S.length ≤ 94 := by
  rw [← h.can]
  exact norm_len S
theorem Sg.sub {C : Addr} {H : Hp} {a : Addr} {S : List Nat} (h : Sg C H a S) : ∀ n ∈ S, n ∈ alpha := by
  rw [← h.can]
  exact norm_sub S
/-- a text of signs -/
structure SgT (l : List Nat) : Prop where
  sub : ∀ n ∈ l, n ∈ alpha
  few : l.length ≤ 2000
theorem Sg.txt {C : Addr} {H : Hp} {a : Addr} {S : List Nat} (h : Sg C H a S) : SgT S := ⟨h.sub, Nat.le_trans h.len (by decide)⟩
/-- what the walk asks of the class Signs -/
structure Txt (K : PySem.W.Frag) (mg : Str → Option Value) (C : Addr) : Prop where
  cl : Cls K C
  nS : NoAttr K C "signs"
  gC : mg "Signs" = some (.ref C)
  sgn : ∃ t, mg "SIGNS" = some (.str (tx alpha) t)
  kStr : PySem.W.kitOne K (.type "str") (.ref C) = some false
  kOwn : PySem.W.kitOne K (.ref C) (.ref C) = some true
  sStr : PySem.W.kitOne K (.ref C) (.type "str") = some false
  c1 : PySem.W.findIn K (.ref C) "__class__" = some (some (.builtin "object.__class__"))
  c2 : PySem.W.specialIn K (.builtin "object.__class__") "__get__" = some (some (.builtin "getset_descriptor.__get__"))
  c3 : PySem.W.takesIn K (.builtin "object.__class__") = some true
  c4 : PySem.W.mroIn K C (.type "object") = some true
theorem Txt.ty {K : PySem.W.Frag} {mg : Str → Option Value} {C : Addr} (T : Txt K mg C) {H : Hp} {a : Addr} {S : List Nat} (h : Sg C H a S) : TyX K H (.ref a) (.ref C) := by
  obtain ⟨⟨dx, e⟩, _⟩ := h
  exact .base (.ins e T.cl T.c1 T.c2 T.c3 T.c4)
/-- what an operand may be: a set of the signs S or a text of them -/
def Opd (C : Addr) (H : Hp) (x : V) (S : List Nat) : Prop := (∃ a, x = .ref a ∧ Sg C H a S) ∨ ∃ l, x = .str (tx l) ∧ SgT l ∧ S = norm l
abbrev Gives (H : Hp) (Q : VK) (v : V) : Prop := ∀ H', Same H H' → Q v H'
/-- what is asked whether it is signs -/
inductive Asked (K : PySem.W.Frag) (C : Addr) (H : Hp) : V → Bool → Prop
  | set {a : Addr} {S : List Nat} : Sg C H a S → Asked K C H (.ref a) true
  | txt {l : List Nat} : l.length ≤ 2000 → Asked K C H (.str (tx l)) (l.all fun n => decide (n ∈ alpha))
  | off {x : V} {t : Value} : TyX K H x t → PySem.W.kitOne K t (.ref C) = some false → PySem.W.kitOne K t (.type "str") = some false → Asked K C H x false
section
variable {P : Program} {w : World} {K : PySem.W.Frag} {mg : Str → Option Value} {base : Heap} {C : Addr}
def spTextA (K : PySem.W.Frag) (C : Addr) : Sp := fun vs H Q _ => ∃ x b, vs = [x] ∧ Asked K C H x b ∧ (∀ a, x = .ref a → b = false) ∧ Gives H Q (.bl b)
theorem ok_is_sign_text {f : Addr} {fd : FuncData} (F : FnP K "is_sign_text" "is_sign_text" s_is_sign_text f fd) (T : Txt K mg C) (N : Nms mg) : FnOk P w K mg base CX0 1 f fd ["thing"] (spTextA K C) := by
  have nd := sc_is_sign_text.nd
  refine F.ok sc_is_sign_text (fun vs H Q E h => ?_) (fun cdv A outer s H vs Q E hr h => ?_)
  · obtain ⟨x, b, rfl, _⟩ := h
    rfl
  · obtain ⟨x, b, rfl, ak, nr, q⟩ := h
    obtain ⟨t, gS⟩ := T.sgn
    refine ⟨_, PSs.nox (pss_one (ps_ret (pe_and (pe_callB call_isi (by rfl) N.isi (by decide +kernel) (pa_cons (pv 0) (pa_cons (pe_bltn (v := .ty "str") (by rfl) N.str (by decide +kernel) rfl) pa_nil)))
      (pe_one (pe_callB (cr_all rfl) (by rfl) N.all (by decide +kernel) (pa_cons (pe_lc (own := [("sign", 1)]) (g := gName 1) (tt := tYes) rfl nd (pi_str (pv 0)) (blkOk_by (N := ["thing", "sign"]) (sc := defScope s_is_sign_text) (by decide +kernel)) (fun _ _ _ _ _ => pg_name (i := 1) nd rfl (Or.inl rfl)) (fun _ _ _ _ _ => pts_nil)
        (fun _ _ _ _ _ => pe_cmpR op_in_sign (pv 1) (pe_glob (v := .str (tx alpha)) rfl gS ⟨_, rfl⟩) rfl)) pa_nil)))))), ?_⟩
    cases ak with
    | set h => cases nr _ rfl
    | off ty _ ks => exact ⟨_, rfl, _, _, _, _, false, rfl, .ty "str", ty, ks, false, rfl, iteF (q H (Same.refl H))⟩
    | @txt l hl =>
      refine ⟨_, rfl, _, _, _, _, true, rfl, .ty "str", .base (.str _), kit_ty (by decide +kernel), true, rfl, iteT ?_⟩
      refine cb_one ?_
      refine lc_tx (l := l) (p := fun _ => true) (f := fun n => V.bl (decide (n ∈ alpha))) (i := 1) (Nat.le_trans hl (by decide)) (fun Q' z => ⟨_, rfl, z⟩) (fun _ => rfl) (fun n H2 Qb _ z => z) (fun n H2 Q' _ z => ⟨_, rfl, n, tx alpha, rfl, rfl, z⟩) fun D hD => ?_
      have eb : ((l.filter fun _ => true).map fun n => V.bl (decide (n ∈ alpha))) = (l.map fun n => decide (n ∈ alpha)).map V.bl := by
        rw [List.filter_eq_self.mpr (fun _ _ => rfl), List.map_map]
        rfl
      refine ⟨D, _, rfl, SqL.of (by rw [← eb]; exact upd_same), ?_⟩
      have ea : (l.map fun n => decide (n ∈ alpha)).all id = l.all fun n => decide (n ∈ alpha) := by
        rw [List.all_map]
        rfl
      rw [ea]
      exact q _ (same_new hD)
def spSigns (K : PySem.W.Frag) (C : Addr) : Sp := fun vs H Q _ => ∃ x b, vs = [x] ∧ Asked K C H x b ∧ Gives H Q (.bl b)
theorem ok_is_signs {f : Addr} {fd : FuncData} (F : FnP K "is_signs" "is_signs" s_is_signs f fd) (T : Txt K mg C) (N : Nms mg) (I : Can P w K mg base CX0 "is_sign_text" ["thing"] 1 (spTextA K C)) : FnOk P w K mg base CX0 2 f fd ["thing"] (spSigns K C) := by
  obtain ⟨fI, fdI, GI, gI, kI, bI⟩ := I
  refine F.ok sc_is_signs (fun vs H Q E h => ?_) (fun cdv A outer s H vs Q E hr h => ?_)
  · obtain ⟨x, b, rfl, _⟩ := h
    rfl
  · obtain ⟨x, b, rfl, ak, q⟩ := h
    refine ⟨_, PSs.nox (pss_one (ps_ret (pe_or (pe_callB call_isi (by rfl) N.isi (by decide +kernel) (pa_cons (pv 0) (pa_cons (pe_glob (v := .ref C) rfl T.gC rfl) pa_nil))) (pe_one (pe_call GI hr (by rfl) gI kI bI .nil pass0 (pa_cons (pv 0) pa_nil)))))), ?_⟩
    cases ak with
    | set h => exact ⟨_, rfl, _, _, _, _, true, rfl, .own C, T.ty h, T.kOwn, true, rfl, iteT (q H (Same.refl H))⟩
    | off ty kc ks => exact ⟨_, rfl, _, _, _, _, false, rfl, .own C, ty, kc, false, rfl, iteF ⟨_, rfl, _, false, rfl, .off ty kc ks, fun _ _ => rfl, q⟩⟩
    | @txt l hl => exact ⟨_, rfl, _, _, _, _, false, rfl, .own C, .base (.str _), T.kStr, false, rfl, iteF ⟨_, rfl, _, _, rfl, .txt hl, (fun a z => by cases z), q⟩⟩
/-- a new set of signs -/
def spInit (C : Addr) : Sp := fun vs H Q _ => ∃ p dx l, vs = [.ref p, .str (tx l)] ∧ H p = some (.ins C dx []) ∧ SgT l ∧ ∀ H', (∀ x o, H x = some o → x ≠ p → H' x = some o) → H' p = some (.ins C dx (flS (norm l))) → Q .non H'
theorem ok_init {f fT : Addr} {fd fdT : FuncData} (F : FunD K "__init__" "Signs.__init__" (defArgs s_Signs_init_) (defBody s_Signs_init_) (defScope s_Signs_init_) [.str ""] [] f fd) (T : Txt K mg C)
    (GT : FnOk P w K mg base CX0 1 fT fdT ["thing"] (spTextA K C)) (gT : mg "is_sign_text" = some (.ref fT)) (kT : PySem.W.keepIn K (.ref fT) = true) (bT : Binds K fdT ["thing"] []) : FnOk P w K mg base CX0 2 f fd ["self", "text"] (spInit C) := by
  have nd := sc_Signs_init_.nd
  refine F.ok sc_Signs_init_ (fun vs H Q E h => ?_) (fun cdv A outer s H vs Q E hr h => ?_)
  · obtain ⟨p, dx, l, rfl, _⟩ := h
    rfl
  · obtain ⟨p, dx, l, rfl, hp, hl, q⟩ := h
    obtain ⟨t, gS⟩ := T.sgn
    refine ⟨_, PSs.nox (pss_cons (ps_if (pt_not (pt_val (pe_call GT hr (by rfl) gT kT bT .nil pass0 (pa_cons (pv 1) pa_nil)))) (pss_one ps_never) pss_nil)
      (pss_one (ps_fld (pv 0) (pe_join pe_str (pe_lc (own := [("sign", 2)]) (g := gName 2) rfl nd (pi_str (pe_glob (v := .str (tx alpha)) rfl gS ⟨_, rfl⟩)) (blkOk_by (N := ["self", "text", "sign"]) (sc := defScope s_Signs_init_) (by decide +kernel)) (fun _ _ _ _ _ => pg_name (i := 2) nd rfl (Or.inl rfl))
      (fun _ _ _ _ _ => pts_one (pt_cmpR op_in_sign (pv 2) (pv 1) rfl)) (fun _ _ _ _ _ => pv 2))) rfl))), ?_⟩
    have al : (l.all fun n => decide (n ∈ alpha)) = true := List.all_eq_true.mpr fun n hn => decide_eq_true (hl.sub n hn)
    refine ⟨_, rfl, _, _, rfl, .txt hl.few, (fun a z => by cases z), fun H1 s1 => ⟨_, rfl, ?_⟩⟩
    rw [al]
    refine iteF ?_
    unfold tNext sFld
    dsimp only
    refine join_tx (i := 2) (p := fun n => decide (n ∈ l)) (l := alpha) rfl (by rw [alpha_len]; decide) (fun Q' z => z) (fun _ => rfl) (fun _ => rfl) (fun n H2 Qb _ z => ⟨_, rfl, _, rfl, n, tx l, rfl, rfl, _, rfl, z⟩) fun H2 s2 => ?_
    have hp2 := s2 _ _ (s1 _ _ hp)
    refine ⟨_, rfl, p, C, dx, _, rfl, hp2, T.cl, T.nS, (by show 0 < 1000; decide), ?_⟩
    refine q _ (fun x o e nx => ?_) upd_same
    rw [upd_ne nx]
    exact s2 _ _ (s1 _ _ e)
/-- how Signs(..) is made -/
def CanMk (P : Program) (w : World) (K : PySem.W.Frag) (mg : Str → Option Value) (base : Heap) (C : Addr) : Prop := ∃ f fd, Mk K C f ∧ FnOk P w K mg base CX0 2 f fd ["self", "text"] (spInit C) ∧ Binds K fd ["self", "text"] [] ∧ ∃ ds, Vals [.str ""] ds ∧ Binds K fd ["self", "text"] ds
/-- a new set of the signs S, beside a heap in which all stands as it stood -/
abbrev GivesSg (C : Addr) (H : Hp) (Q : VK) (S : List Nat) : Prop := ∀ (r : Addr) (H' : Hp), Same H H' → H r = none → Sg C H' r S → Q (.ref r) H'
/-- what the making of Signs(text) asks -/
theorem make_rd {H : Hp} {Q : VK} {l : List Nat} (hl : SgT l) (q : GivesSg C H Q (norm l)) : ∀ x dx, H x = none → H dx = none → dx ≠ x → spInit C (.ref x :: ([.str (tx l)] ++ [])) (upd (upd H dx (.own x)) x (.ins C dx [])) (fun v H2 => v = .non ∧ Q (.ref x) H2) E0 := by
  intro x dx hx hdx ne
  refine ⟨x, dx, l, rfl, upd_same, hl, fun H' k e => ⟨rfl, q x H' (fun b o z => k b o ?_ (ne_of_none z hx)) hx ⟨⟨dx, e⟩, norm_norm l⟩⟩⟩
  rw [upd_ne (ne_of_none z hx), upd_ne (ne_of_none z hdx)]
  exact z
def spOf (C : Addr) : Sp := fun vs H Q _ => ∃ x S, vs = [x] ∧ Opd C H x S ∧ Gives H Q (.str (tx S))
theorem ok_signs_of {f : Addr} {fd : FuncData} (F : FnP K "signs_of" "signs_of" s_signs_of f fd) (T : Txt K mg C) (N : Nms mg) (M : CanMk P w K mg base C) : FnOk P w K mg base CX0 4 f fd ["thing"] (spOf C) := by
  obtain ⟨fI, fdI, MI, GI, bI, _⟩ := M
  have nd := sc_signs_of.nd
  refine F.ok sc_signs_of (fun vs H Q E h => ?_) (fun cdv A outer s H vs Q E hr h => ?_)
  · obtain ⟨x, S, rfl, _⟩ := h
    rfl
  · obtain ⟨x, S, rfl, hx, q⟩ := h
    refine ⟨_, PSs.nox (pss_cons (ps_if (pt_val (pe_callB call_isi (by rfl) N.isi (by decide +kernel) (pa_cons (pv 0) (pa_cons (pe_glob (v := .ref C) rfl T.gC rfl) pa_nil)))) (pss_one (ps_ret (pe_fld (pv 0) rfl))) pss_nil)
      (pss_one (ps_ret (pe_fld (pe_make MI GI hr (by rfl) T.gC bI .nil pass0 (pa_cons (pv 0) pa_nil)) rfl)))), ?_⟩
    rcases hx with ⟨a, rfl, hS⟩ | ⟨l, rfl, hl, rfl⟩
    · refine ⟨_, rfl, _, _, _, _, true, rfl, .own C, T.ty hS, T.kOwn, true, rfl, iteT ?_⟩
      obtain ⟨⟨dx, e⟩, _⟩ := id hS
      exact ⟨_, rfl, a, C, dx, _, _, rfl, e, T.cl, T.nS, flS_signs S, q H fun _ _ z => z⟩
    · refine ⟨_, rfl, _, _, _, _, false, rfl, .own C, .base (.str _), T.kStr, false, rfl, iteF ?_⟩
      refine ⟨_, rfl, ?_⟩
      refine fun r dx hr0 hdx ne => ⟨r, dx, l, rfl, upd_same, hl, fun H' k e => ⟨rfl, r, C, dx, _, _, rfl, e, T.cl, T.nS, flS_signs _, q H' fun b o z => k b o ?_ (ne_of_none z hr0)⟩⟩
      rw [upd_ne (ne_of_none z hr0), upd_ne (ne_of_none z hdx)]
      exact z
end
end K06

set_option autoImplicit false
set_option maxErrors 4
namespace K06
open PySem PySem.Spec PyProof.Rows L2 Tl
/-! ### bounds, rows, short texts -/
/-- a value that is given as a bound -/
inductive Bn
  | int (n : Int)
  | none
  | other
def BnAt (K : PySem.W.Frag) (H : Hp) (v : V) : Bn → Prop
  | .int n => v = .int n
  | .none => v = .non
  | .other => NoInt K H v ∧ v ≠ .non
def boundsOk : Bn → Bn → Option (Nat × Option Nat)
  | .int l, .none => if 0 ≤ l ∧ l ≤ 40 then some (l.toNat, Option.none) else Option.none
  | .int l, .int m => if 0 ≤ l ∧ l ≤ 40 ∧ 1 ≤ m ∧ m ≤ 40 ∧ l ≤ m then some (l.toNat, some m.toNat) else Option.none
  | _, _ => Option.none
theorem bo_n (l : Int) : boundsOk (.int l) .none = if 0 ≤ l ∧ l ≤ 40 then some (l.toNat, Option.none) else Option.none := rfl
theorem bo_i (l m : Int) : boundsOk (.int l) (.int m) = if 0 ≤ l ∧ l ≤ 40 ∧ 1 ≤ m ∧ m ≤ 40 ∧ l ≤ m then some (l.toNat, some m.toNat) else Option.none := rfl
theorem noInt_non {K : PySem.W.Frag} {H : Hp} : NoInt K H .non := ⟨.type "NoneType", false, false, .base .non, kit_ty (by decide +kernel), kit_ty (by decide +kernel), rfl⟩
theorem noInt_bl {K : PySem.W.Frag} {H : Hp} (b : Bool) : NoInt K H (.bl b) := ⟨.type "bool", true, true, .base (.bl b), kit_ty (by decide +kernel), kit_ty (by decide +kernel), rfl⟩
theorem noInt_str {K : PySem.W.Frag} {H : Hp} (z : Str) : NoInt K H (.str z) := ⟨.type "str", false, false, .base (.str z), kit_ty (by decide +kernel), kit_ty (by decide +kernel), rfl⟩
theorem noInt_lst {K : PySem.W.Frag} {H : Hp} {a : Addr} {xs : List V} (e : H a = some (.lst xs)) : NoInt K H (.ref a) := ⟨.type "list", false, false, .base (.lst e), kit_ty (by decide +kernel), kit_ty (by decide +kernel), rfl⟩
theorem tyX_same {K : PySem.W.Frag} {H H' : Hp} {x : V} {t : Value} (h : TyX K H x t) (s : Same H H') : TyX K H' x t := by
  cases h with
  | base b =>
    cases b with
    | non => exact .base .non
    | bl b => exact .base (.bl b)
    | int i => exact .base (.int i)
    | str z => exact .base (.str z)
    | flt z => exact .base (.flt z)
    | lst e => exact .base (.lst (s _ _ e))
    | frz e => exact .base (.frz (s _ _ e))
    | tup e => exact .base (.tup (s _ _ e))
    | dK e => exact .base (.dK (s _ _ e))
    | dT e => exact .base (.dT (s _ _ e))
    | ins e cl a b c d => exact .base (.ins (s _ _ e) cl a b c d)
  | byt b => exact .byt b
  | set e => exact .set (s _ _ e)
  | kList e c => exact .kList e c
  | kTuple e c => exact .kTuple e c
  | kDict e c => exact .kDict e c
  | fTuple e => exact .fTuple (s _ _ e)
  | fDict e => exact .fDict (s _ _ e)
theorem noInt_same {K : PySem.W.Frag} {H H' : Hp} {x : V} (h : NoInt K H x) (s : Same H H') : NoInt K H' x := by
  obtain ⟨t, b1, b2, ty, r⟩ := h
  exact ⟨t, b1, b2, tyX_same ty s, r⟩
theorem BnAt.same {K : PySem.W.Frag} {H H' : Hp} {v : V} {b : Bn} (h : BnAt K H v b) (s : Same H H') : BnAt K H' v b := by
  cases b with
  | int n => exact h
  | none => exact h
  | other => exact ⟨noInt_same h.1 s, h.2⟩
theorem kit2 {K : PySem.W.Frag} {t : Value} {b1 b2 : Bool} (k1 : PySem.W.kitOne K t (.type "list") = some b1) (k2 : PySem.W.kitOne K t (.type "tuple") = some b2) : PySem.W.kitAny K t [.type "list", .type "tuple"] = some (b1 || b2) := by
  unfold PySem.W.kitAny
  rw [k1]
  cases b1 with
  | true => rfl
  | false =>
    show PySem.W.kitAny K t [.type "tuple"] = _
    unfold PySem.W.kitAny
    rw [k2]
    cases b2 <;> rfl
section
variable {P : Program} {w : World} {K : PySem.W.Frag} {mg : Str → Option Value} {base : Heap} {C : Addr}
def spBounds (K : PySem.W.Frag) : Sp := fun vs H Q _ => ∃ (x y : V) (a b : Bn), vs = [x, y] ∧ BnAt K H x a ∧ BnAt K H y b ∧ Q (.bl (boundsOk a b).isSome) H
theorem ok_bounds {f : Addr} {fd : FuncData} (F : FnP K "are_bounds" "are_bounds" s_are_bounds f fd) (Co : Cons mg) (I : Can P w K mg base CX0 "is_integer_within" ["thing", "low", "high"] 2 (spWithin K)) : FnOk P w K mg base CX0 3 f fd ["least", "most"] (spBounds K) := by
  obtain ⟨fI, fdI, GI, gI, kI, bI⟩ := I
  obtain ⟨tB, gB⟩ := Co.bound
  refine F.ok sc_are_bounds (fun vs H Q E h => ?_) (fun cdv A outer s H vs Q E hr h => ?_)
  · obtain ⟨x, y, a, b, rfl, _⟩ := h
    rfl
  · obtain ⟨x, y, a, b, rfl, ha, hb, q⟩ := h
    refine ⟨_, PSs.nox (pss_cons (ps_if (pt_not (pt_val (pe_call GI hr (by rfl) gI kI bI .nil pass0 (pa_cons (pv 0) (pa_cons pe_int (pa_cons (pe_glob (v := .int 40) (by rfl) gB ⟨_, rfl⟩) pa_nil)))))) (pss_one (ps_ret pe_bl)) pss_nil)
      (pss_one (ps_ret (pe_or (pe_cmpR op_isN (pv 1) pe_non (nomark _)) (pe_one (pe_and (pe_call GI hr (by rfl) gI kI bI .nil pass0 (pa_cons (pv 1) (pa_cons pe_int (pa_cons (pe_glob (v := .int 40) (by rfl) gB ⟨_, rfl⟩) pa_nil)))) (pe_one (pe_cmpR op_le (pv 0) (pv 1) (nomark _))))))))), ?_⟩
    refine ⟨_, rfl, x, 0, 40, rfl, ?_⟩
    cases a with
    | none =>
      cases ha
      have e : (boundsOk .none b).isSome = false := by cases b <;> rfl
      rw [e] at q
      exact .inr ⟨noInt_non, _, rfl, iteT q⟩
    | other =>
      have e : (boundsOk .other b).isSome = false := by cases b <;> rfl
      rw [e] at q
      exact .inr ⟨ha.1, _, rfl, iteT q⟩
    | int l =>
      cases ha
      refine .inl ⟨l, rfl, _, rfl, ?_⟩
      by_cases hl : 0 ≤ l ∧ l ≤ 40
      · rw [decide_eq_true hl]
        refine iteF ?_
        cases b with
        | none =>
          cases hb
          refine ⟨_, rfl, rfl, true, rfl, iteT ?_⟩
          have e : (boundsOk (.int l) .none).isSome = true := by rw [bo_n, if_pos hl]; rfl
          rw [e] at q
          exact q
        | other =>
          refine ⟨_, rfl, rfl, false, congrArg V.bl (decide_eq_false hb.2), iteF ?_⟩
          exact ⟨_, rfl, y, 1, 40, rfl, .inr ⟨hb.1, false, rfl, iteF q⟩⟩
        | int m =>
          cases hb
          refine ⟨_, rfl, rfl, false, rfl, iteF ?_⟩
          refine ⟨_, rfl, _, 1, 40, rfl, .inl ⟨m, rfl, _, rfl, ?_⟩⟩
          by_cases hm : 1 ≤ m ∧ m ≤ 40
          · rw [decide_eq_true hm]
            refine iteT ?_
            refine ⟨_, rfl, _, rfl, _, _, rfl, rfl, ?_⟩
            have e : (boundsOk (.int l) (.int m)).isSome = decide (l ≤ m) := by
              rw [bo_i]
              by_cases z : l ≤ m
              · rw [if_pos ⟨hl.1, hl.2, hm.1, hm.2, z⟩, decide_eq_true z]
                rfl
              · rw [if_neg (fun y => z y.2.2.2.2), decide_eq_false z]
                rfl
            rw [e] at q
            exact q
          · rw [decide_eq_false hm]
            refine iteF ?_
            have e : (boundsOk (.int l) (.int m)).isSome = false := by
              rw [bo_i]
              rw [if_neg (fun y => hm ⟨y.2.2.1, y.2.2.2.1⟩)]
              rfl
            rw [e] at q
            exact q
      · rw [decide_eq_false hl]
        refine iteT ?_
        have e : (boundsOk (.int l) b).isSome = false := by
          cases b with
          | none => rw [bo_n, if_neg hl]; rfl
          | int m => rw [bo_i, if_neg (fun y => hl ⟨y.1, y.2.1⟩)]; rfl
          | other => rfl
        rw [e] at q
        exact q
theorem ok_row {f : Addr} {fd : FuncData} (F : FnP K "is_row" "is_row" s_is_row f fd) (N : Nms mg) : FnOk P w K mg base CX0 1 f fd ["thing"] (spRow K) := by
  refine F.ok sc_is_row (fun vs H Q E h => ?_) (fun cdv A outer s H vs Q E hr h => ?_)
  · obtain ⟨x, t, b1, b2, rfl, _⟩ := h
    rfl
  · obtain ⟨x, t, b1, b2, rfl, ty, k1, k2, q⟩ := h
    refine ⟨_, PSs.nox (pss_one (ps_ret (pe_callB call_isiT (by rfl) N.isi (by decide +kernel) (pa_cons (pv 0) (pa_cons (pe_tup (pa_cons (pe_bltn (v := .ty "list") (by rfl) N.list (by decide +kernel) rfl) (pa_cons (pe_bltn (v := .ty "tuple") (by rfl) N.tuple (by decide +kernel) rfl) pa_nil))) pa_nil))))), ?_⟩
    refine ⟨_, rfl, line_small (by show 2 ≤ 16777216; decide), fun p hp => ?_⟩
    have sm := same_new (o := .tup [.ty "list", .ty "tuple"]) hp
    refine ⟨x, p, _, t, [.type "list", .type "tuple"], b1 || b2, rfl, upd_same, .cons (.ty "list") (.cons (.ty "tuple") .nil), tyX_same ty sm, kit2 k1 k2, q _ sm⟩
/-- a thing that is asked whether it is a short text -/
inductive Short (K : PySem.W.Frag) (C : Addr) (H : Hp) : V → Bool → Prop
  | txt {l : List Nat} : l.length ≤ 2000 → Short K C H (.str (tx l)) ((l.all fun n => decide (n ∈ alpha)) && decide (1 ≤ l.length ∧ l.length ≤ 20))
  | off {x : V} {t : Value} : TyX K H x t → PySem.W.kitOne K t (.ref C) = some false → PySem.W.kitOne K t (.type "str") = some false → Short K C H x false
def spShort (K : PySem.W.Frag) (C : Addr) : Sp := fun vs H Q _ => ∃ x b, vs = [x] ∧ Short K C H x b ∧ Gives H Q (.bl b)
theorem ok_short {f : Addr} {fd : FuncData} (F : FnP K "is_short_text" "is_short_text" s_is_short_text f fd) (N : Nms mg) (Co : Cons mg) (I : Can P w K mg base CX0 "is_sign_text" ["thing"] 1 (spTextA K C)) : FnOk P w K mg base CX0 2 f fd ["thing"] (spShort K C) := by
  obtain ⟨fI, fdI, GI, gI, kI, bI⟩ := I
  obtain ⟨tB, gB⟩ := Co.text
  refine F.ok sc_is_short_text (fun vs H Q E h => ?_) (fun cdv A outer s H vs Q E hr h => ?_)
  · obtain ⟨x, b, rfl, _⟩ := h
    rfl
  · obtain ⟨x, b, rfl, sh, q⟩ := h
    refine ⟨_, PSs.nox (pss_one (ps_ret (pe_and (pe_call GI hr (by rfl) gI kI bI .nil pass0 (pa_cons (pv 0) pa_nil)) (pe_one (pe_chain op_le op_le pe_int (pe_callB call_len_str (by rfl) N.len PySem.boot_len (pa_cons (pv 0) pa_nil)) (pe_glob (v := .int 20) (by rfl) gB ⟨_, rfl⟩)))))), ?_⟩
    cases sh with
    | off ty kc ks => exact ⟨_, rfl, _, false, rfl, .off ty kc ks, fun _ _ => rfl, fun H1 s1 => ⟨false, rfl, iteF (q H1 s1)⟩⟩
    | @txt l hl =>
      refine ⟨_, rfl, _, _, rfl, .txt hl, (fun a z => by cases z), fun H1 s1 => ⟨_, rfl, ?_⟩⟩
      cases hb : (l.all fun n => decide (n ∈ alpha)) with
      | false =>
        rw [hb] at q
        exact iteF (q H1 s1)
      | true =>
        rw [hb, Bool.true_and] at q
        refine iteT ?_
        refine ⟨_, rfl, _, rfl, (by rw [len_tx]; exact line_small (by omega)), ?_⟩
        rw [len_tx]
        refine ⟨_, _, rfl, rfl, _, rfl, ?_⟩
        by_cases h1 : 1 ≤ l.length
        · have e : decide (1 ≤ l.length ∧ l.length ≤ 20) = decide (((l.length : Nat) : Int) ≤ 20) := by
            rw [decide_eq_decide]
            omega
          rw [e] at q
          refine (if_pos (decide_eq_true (by omega))).mpr ?_
          exact ⟨_, _, rfl, rfl, q H1 s1⟩
        · have e : decide (1 ≤ l.length ∧ l.length ≤ 20) = false := decide_eq_false (fun z => h1 z.1)
          rw [e] at q
          refine (if_neg (by simp; omega)).mpr ?_
          exact q H1 s1
end
end K06

set_option autoImplicit false
set_option maxErrors 4
namespace K06
open PySem PySem.Spec PyProof.Rows L2 Tl
/-! ### Kind(rows) -/
section
variable {H H' : Hp}
mutual
theorem nkT (s : ∀ b xs, H b = some (.tup xs) → H' b = some (.tup xs)) : ∀ (k : NestedKey) (v : V), NkV H k v → NkV H' k v
  | .none, _, x => by cases x; exact .non
  | .num i, _, x => by cases x; exact .int i
  | .text z, _, x => by cases x; exact .str z
  | .tup ks, _, x => by
    cases x with
    | tup e al => exact .tup (s _ _ e) (nkTA s ks _ al)
theorem nkTA (s : ∀ b xs, H b = some (.tup xs) → H' b = some (.tup xs)) : ∀ (ks : List NestedKey) (vs : List V), NkAll H ks vs → NkAll H' ks vs
  | [], _, x => by cases x; exact .nil
  | k :: ks, _, x => by
    cases x with
    | cons x1 x2 => exact .cons (nkT s k _ x1) (nkTA s ks _ x2)
end
end
theorem RowsAt.tups {H H' : Hp} {rs : Rws} (h : RowsAt H rs) (s : ∀ b xs, H b = some (.tup xs) → H' b = some (.tup xs)) : RowsAt H' rs := fun x hx => nkT s _ _ (h x hx)
/-- all but p stands as it stood -/
def But (p : Addr) (H H' : Hp) : Prop := ∀ x o, H x = some o → x ≠ p → H' x = some o
/-- a class of no arguments that is raised -/
structure Plain (K : PySem.W.Frag) (mg : Str → Option Value) (x : Str) (C : Addr) : Prop where
  g : mg x = some (.ref C)
  e : PySem.W.excIn K C He.veBase "ValueError.__new__" = true
  k : PySem.W.keepIn K (.ref C) = true
  s : PySem.W.subIn K (.ref C) (.type "BaseException") = some true
  t : PySem.W.typeIn K (.ref C) = some (.type "type")
theorem pmk_plain {X : Cx} {x : Str} {C : Addr} {p pos : Pos} (h : Plain X.K X.mg x C) (hg : Gl X x) (hdb : (x == ("__debug__" : Str)) = false := by decide) : L2N.PMk X (.Call (.Name x p) [] [] pos) (fun _ H Q => Q (.ref C) none H) :=
  pmkN_own0 F.excBase_ValueError h.e h.g h.k (raises_own h.s h.t) hg hdb
/-- what is asked of the class Kind -/
structure KindC (K : PySem.W.Frag) (KC : Addr) : Prop where
  cl : Cls K KC
  n1 : NoAttr K KC "rows"
  n2 : NoAttr K KC "net"
/-- the alternatives keep to the bounds of nets -/
def RowsOk (rs : Rws) : Prop := ∀ x ∈ rs, ∀ r ∈ x.1, RunOk r
theorem onceR_ok {rs : Rws} (h : RowsOk rs) : RowsOk (onceR rs) := fun x hx => h x (onceR_sub x hx)
theorem onceR_len (rs : Rws) : (onceR rs).length ≤ rs.length := by
  have z := onceR_take_len rs rs.length
  rw [List.take_of_length_le (Nat.le_refl _)] at z
  exact z
abbrev kindF (t n : Addr) : List (Str × V) := [("rows", .ref t), ("net", .ref n)]
theorem sum_mem {xs : List Nat} {x : Nat} (h : x ∈ xs) : x ≤ xs.sum := by
  induction xs with
  | nil => cases h
  | cons y r ih =>
    rw [List.sum_cons]
    rcases List.mem_cons.mp h with rfl | h
    · omega
    · have := ih h
      omega
theorem placesRs_mem {rs : Rws} {x : RowL × Addr} (h : x ∈ rs) : (placesR x.1).sum ≤ (placesRs rs).sum := by
  unfold placesRs
  induction rs with
  | nil => cases h
  | cons y r ih =>
    rw [List.flatMap_cons, List.sum_append]
    rcases List.mem_cons.mp h with rfl | h
    · omega
    · have := ih h
      omega
theorem charsOf_alts {rs : Rws} (h : RowsOk rs) (small : (placesRs rs).sum ≤ 500) : charsOf ((rs.map (·.1)).map altN) = (placesRs rs).sum := by
  unfold charsOf placesRs
  induction rs with
  | nil => rfl
  | cons y r ih =>
    have hy := placesRs_mem (rs := y :: r) (x := y) List.mem_cons_self
    have hr : (placesRs r).sum ≤ 500 := by
      unfold placesRs at small ⊢
      rw [List.flatMap_cons, List.sum_append] at small
      omega
    rw [List.flatMap_cons, List.sum_append, List.map_cons, List.map_cons, List.map_cons, List.sum_cons, ih (fun x hx => h x (List.mem_cons_of_mem _ hx)) hr, (altN_ok (h y List.mem_cons_self) (by omega)).2]
section
variable {P : Program} {w : World} {K : PySem.W.Frag} {mg : Str → Option Value} {base : Heap} {NC KC BK : Addr}
def spKInit (NC KC BK : Addr) : Sp := fun vs H Q E => ∃ (p dx l : Addr) (rs : Rws), vs = [.ref p, .ref l] ∧ H p = some (.ins KC dx []) ∧ H l = some (.lst (rowsV rs)) ∧ RowsAt H rs ∧ rs.length ≤ 1000 ∧ RowsOk rs ∧
  ((tooLarge (onceR rs) = true ∧ ∀ H', But p H H' → E (.ref BK) none H') ∨
   (tooLarge (onceR rs) = false ∧ ∀ t n H', But p H H' → H t = none → H' p = some (.ins KC dx (kindF t n)) → H' t = some (.tup (rowsV (onceR rs))) → NetAt NC H' n (kindN ((onceR rs).map (·.1))) → Q .non H'))
set_option maxHeartbeats 20000000 in
theorem ok_kinit {f : Addr} {fd : FuncData} (F : FnP K "__init__" "Kind.__init__" s_Kind_init_ f fd) (T : KindC K KC) (PB : Plain K mg "BadKind" BK) (W : Can P w K mg base CX0 "without_repeats" ["rows"] 1 spWr) (L : Can P w K mg base CX0 "is_too_large" ["rows"] 2 spToo)
    (S : Can P w K mg base CX0 "side_by_side" ["nets"] 4 (spNets NC sideL)) (A : Can P w K mg base CX0 "alternative_net" ["row"] 5 (spAlt NC)) : FnOk P w K mg base (L2N.CX P w) 6 f fd ["self", "rows"] (spKInit NC KC BK) := by
  obtain ⟨fW, fdW, GW, gW, kW, bW⟩ := W
  obtain ⟨fL, fdL, GL, gL, kL, bL⟩ := L
  obtain ⟨fS, fdS, GS, gS, kS, bS⟩ := S
  obtain ⟨fA, fdA, GA, gA, kA, bA⟩ := A
  have nd := sc_Kind_init_.nd
  refine F.ok sc_Kind_init_ (fun vs H Q E h => ?_) (fun cdv A outer s H vs Q E hr h => ?_)
  · obtain ⟨p, dx, l, rs, rfl, _⟩ := h
    rfl
  · obtain ⟨p, dx, l, rs, rfl, hp, hl, at_, len, ok, q⟩ := h
    have tk := L2N.takes_of (X := cxOf (L2N.CX P w) P w K mg base ["self", "rows", "row"] "Kind.__init__" (defScope s_Kind_init_) f cdv A outer s H E) (E := E) rfl rfl rfl rfl
    have r4 := hr.mono (show 4 ≤ 5 by decide)
    have r2 := hr.mono (show 2 ≤ 5 by decide)
    have r1 := hr.mono (show 1 ≤ 5 by decide)
    refine ⟨_, pss_cons (ps_fld (pv 0) (pe_call GW r1 (by rfl) gW kW bW .nil pass0 (pa_cons (pv 1) pa_nil)) rfl)
      (pss_cons (ps_if (pt_val (pe_call GL r2 (by rfl) gL kL bL .nil pass0 (pa_cons (pe_fld (pv 0) rfl) pa_nil))) (pss_one (L2N.ps_raise rfl tk (pmk_plain PB rfl))) pss_nil)
      (pss_one (ps_fld (pv 0) (pe_call GS r4 (by rfl) gS kS bS .nil pass0 (pa_cons (pe_lc (own := [("row", 2)]) (g := gName 2) (tt := tYes) rfl nd (pi_tup (pe_fld (pv 0) rfl)) (blkOk_by (N := ["self", "rows", "row"]) (sc := defScope s_Kind_init_) (by decide +kernel))
        (fun _ _ _ _ _ => pg_name (i := 2) nd rfl (Or.inl rfl)) (fun _ _ _ _ _ => pts_nil) (fun _ _ _ _ _ => pe_call GA hr (by rfl) gA kA bA .nil pass0 (pa_cons (pv 2) pa_nil))) pa_nil)) rfl))), ?_⟩
    refine ⟨_, rfl, l, rs, rfl, hl, at_, len, fun t H1 s1 ht0 ht => ?_⟩
    refine ⟨_, rfl, p, KC, dx, _, rfl, s1 _ _ hp, T.cl, T.n1, (by show 0 < 1000; decide), ?_⟩
    have ntp : t ≠ p := fun z => by rw [z, hp] at ht0; cases ht0
    have e1 : upd H1 p (.ins KC dx [("rows", .ref t)]) t = some (.tup (rowsV (onceR rs))) := by
      rw [upd_ne ntp]
      exact ht
    have tups : ∀ b xs, H1 b = some (.tup xs) → upd H1 p (.ins KC dx [("rows", .ref t)]) b = some (.tup xs) := fun b xs z => by
      by_cases e : b = p
      · rw [e, s1 _ _ hp] at z
        cases z
      · rw [upd_ne e]
        exact z
    have at1 : RowsAt (upd H1 p (.ins KC dx [("rows", .ref t)])) (onceR rs) := RowsAt.tups (fun x hx => ((at_.same s1) x (onceR_sub x hx))) tups
    have len1 : (onceR rs).length ≤ 1000 := Nat.le_trans (onceR_len rs) len
    have b1 : But p H (upd H1 p (.ins KC dx [("rows", .ref t)])) := fun x o e n => by
      rw [upd_ne n]
      exact s1 _ _ e
    show _
    refine ⟨_, rfl, p, KC, dx, _, _, rfl, upd_same, T.cl, T.n1, lk_hit, ?_⟩
    refine ⟨t, onceR rs, rfl, e1, at1, len1, fun H2 s2 => ⟨_, rfl, ?_⟩⟩
    rcases q with ⟨big, q⟩ | ⟨small, q⟩
    · rw [big]
      refine iteT ?_
      exact q _ fun x o e n => s2 _ _ (b1 x o e n)
    rw [small]
    refine iteF ?_
    have sums : (placesRs (onceR rs)).sum ≤ 120 ∧ (onceR rs).length ≤ 20 ∧ ∀ x ∈ onceR rs, x.1.length ≤ 20 := by
      unfold tooLarge at small
      rw [Bool.or_eq_false_iff, Bool.or_eq_false_iff] at small
      obtain ⟨⟨a1, a2⟩, a3⟩ := small
      have a1 := of_decide_eq_false a1
      have a3 := of_decide_eq_false a3
      refine ⟨by omega, by omega, fun x hx => ?_⟩
      have z := List.any_eq_false.mp a2 x hx
      simp only [decide_eq_true_eq] at z
      omega
    have hp2 := s2 _ _ (upd_same (H := H1) (a := p) (o := .ins KC dx [("rows", .ref t)]))
    have ht2 := s2 _ _ e1
    have at2 := at1.same s2
    have ok2 := onceR_ok ok
    have lenV : (rowsV (onceR rs)).length = (onceR rs).length := List.length_map _
    show _
    refine ⟨_, rfl, p, KC, dx, _, _, rfl, hp2, T.cl, T.n1, lk_hit, t, rfl, ⟨_, SqT.of ht2⟩, fun D hD => ?_⟩
    refine lc_it (n := (onceR rs).length) (by rw [← lenV]; exact walk_tup) (fun j H' => ∃ ps : Prs, H' D = some (.lst (refsP ps)) ∧ netsP ps = (((onceR rs).take j).map (·.1)).map altN ∧ (∀ x ∈ ps, NetOff NC D H' x.1 x.2 ∧ x.2.Ok) ∧ Same H2 H') ⟨[], upd_same, rfl, (fun x hx => by cases hx), same_new hD⟩ (fun j H' _ h => by
      obtain ⟨_, _, _, _, sm⟩ := h
      exact SqT.of (sm _ _ ht2)) ?_ ?_
    · rintro j y _ H3 hj ⟨ps, e4, en, na, sm⟩ ⟨rfl, hy⟩
      have ey : y = .ref (onceR rs)[j].2 := by
        unfold rowsV at hy
        rw [List.getElem?_map, List.getElem?_eq_getElem hj] at hy
        exact (Option.some.inj hy).symm
      subst ey
      have mem := List.getElem_mem hj
      have pl := placesRs_mem mem
      refine ⟨rfl, yes_keep ?_⟩
      refine ⟨_, rfl, _, (onceR rs)[j].1, rfl, ((at2 _ mem).same sm), ok2 _ mem, by omega, (Nat.le_trans (sums.2.2 _ mem) (by decide)), fun n nc nf H4 s4 hn0 hnc hnf nat => ?_⟩
      have eD := s4 _ _ e4
      have lp : ps.length = j := by
        have z := congrArg List.length en
        unfold netsP at z
        rw [List.length_map, List.length_map, List.length_map, List.length_take] at z
        omega
      have keep : ∀ b o, b ≠ D → H4 b = some o → (upd H4 D (.lst (refsP ps ++ [.ref n]))) b = some o := fun b o nb z => by
        rw [upd_ne nb]
        exact z
      have okn := altN_ok (ok2 _ mem) (show (placesR (onceR rs)[j].1).sum ≤ 500 by omega)
      refine ⟨_, eD, ?_, ps ++ [(n, altN (onceR rs)[j].1)], ?_, ?_, ?_, fun b o z => ?_⟩
      · unfold refsP
        rw [List.length_map, lp]
        exact small1000 (by omega)
      · rw [upd_same]
        unfold refsP
        rw [List.map_append]
        rfl
      · unfold netsP at en ⊢
        rw [List.map_append, en, List.take_add_one, List.getElem?_eq_getElem hj, List.map_append, List.map_append]
        rfl
      · intro x hx
        rcases List.mem_append.mp hx with hx | hx
        · exact ⟨((na x hx).1.same fun b o _ z => s4 _ _ z).same keep, (na x hx).2⟩
        · rw [List.mem_singleton.mp hx]
          exact ⟨(nat.off hn0 hnc hnf e4).same keep, okn.1⟩
      · rw [upd_ne (ne_of_none z hD)]
        exact s4 _ _ (sm _ _ z)
    · rintro H3 ⟨ps, e4, en, na, sm⟩
      rw [List.take_of_length_le (Nat.le_refl _)] at en
      refine ⟨D, ps, rfl, e4, fun x hx => ⟨(na x hx).1.at, (na x hx).2⟩, ?_, ?_⟩
      · rw [en, charsOf_alts ok2 (by omega)]
        omega
      · rw [en]
        refine fun n nc nf H4 s4 hn hc hf net => ?_
        have hp4 := s4 _ _ (sm _ _ hp2)
        have ht4 := s4 _ _ (sm _ _ ht2)
        refine ⟨_, rfl, p, KC, dx, _, rfl, hp4, T.cl, T.n2, (by show 1 < 1000; decide), ?_⟩
        refine q t n _ (fun x o e nx => ?_) ht0 ?_ ?_ (net.put hn hc hf (sm _ _ hp2))
        · rw [upd_ne nx]
          exact s4 _ _ (sm _ _ (s2 _ _ (b1 x o e nx)))
        · rw [upd_same]
          rfl
        · rw [upd_ne ntp]
          exact ht4
end
end K06

set_option autoImplicit false
set_option maxErrors 4
namespace K06
open PySem PySem.Spec PyProof.Rows L2 Tl
/-! ### Kind.run, Kind.words -/
/-- a kind stands at k -/
def KindAt (KC NC : Addr) (H : Hp) (k : Addr) (rows : List RowL) : Prop := ∃ (dx t n : Addr) (rs : Rws), H k = some (.ins KC dx (kindF t n)) ∧ H t = some (.tup (rowsV rs)) ∧ rs.map (·.1) = rows ∧ RowsAt H rs ∧ NetAt NC H n (kindN rows)
theorem KindAt.same {KC NC : Addr} {H H' : Hp} {k : Addr} {rows : List RowL} (h : KindAt KC NC H k rows) (s : Same H H') : KindAt KC NC H' k rows := by
  obtain ⟨dx, t, n, rs, h1, h2, h3, h4, h5⟩ := h
  exact ⟨dx, t, n, rs, s _ _ h1, s _ _ h2, h3, h4.same s, h5.same s⟩
/-- the same, its net left aside -/
def KindL (KC : Addr) (H : Hp) (k : Addr) (rows : List RowL) : Prop := ∃ (dx t n : Addr) (rs : Rws), H k = some (.ins KC dx (kindF t n)) ∧ H t = some (.tup (rowsV rs)) ∧ rs.map (·.1) = rows ∧ RowsAt H rs
theorem KindAt.lite {KC NC : Addr} {H : Hp} {k : Addr} {rows : List RowL} (h : KindAt KC NC H k rows) : KindL KC H k rows := by
  obtain ⟨dx, t, n, rs, h1, h2, h3, h4, _⟩ := h
  exact ⟨dx, t, n, rs, h1, h2, h3, h4⟩
theorem KindL.same {KC : Addr} {H H' : Hp} {k : Addr} {rows : List RowL} (h : KindL KC H k rows) (s : Same H H') : KindL KC H' k rows := by
  obtain ⟨dx, t, n, rs, h1, h2, h3, h4⟩ := h
  exact ⟨dx, t, n, rs, s _ _ h1, s _ _ h2, h3, h4.same s⟩
/-- instances and tuples stay -/
theorem KindL.stay {KC : Addr} {H H' : Hp} {k : Addr} {rows : List RowL} (h : KindL KC H k rows) (si : ∀ a C dx fs, H a = some (.ins C dx fs) → H' a = some (.ins C dx fs)) (st : ∀ b xs, H b = some (.tup xs) → H' b = some (.tup xs)) : KindL KC H' k rows := by
  obtain ⟨dx, t, n, rs, h1, h2, h3, h4⟩ := h
  exact ⟨dx, t, n, rs, si _ _ _ _ h1, st _ _ h2, h3, h4.tups st⟩
abbrev GivesKind (KC NC : Addr) (H : Hp) (Q : VK) (rows : List RowL) : Prop := ∀ (k : Addr) (H' : Hp), Same H H' → H k = none → KindAt KC NC H' k rows → Q (.ref k) H'
abbrev Raised (H : Hp) (E : XK) (C : Addr) : Prop := ∀ H', Same H H' → E (.ref C) none H'
section
variable {KC NC BK : Addr}
theorem make_kind {H : Hp} {Q : VK} {E : XK} {l : Addr} {rs : Rws} (hl : H l = some (.lst (rowsV rs))) (at_ : RowsAt H rs) (len : rs.length ≤ 1000) (ok : RowsOk rs)
    (q : (tooLarge (onceR rs) = true ∧ Raised H E BK) ∨ (tooLarge (onceR rs) = false ∧ GivesKind KC NC H Q ((onceR rs).map (·.1)))) :
    ∀ x dx, H x = none → H dx = none → dx ≠ x → spKInit NC KC BK (.ref x :: ([.ref l] ++ [])) (upd (upd H dx (.own x)) x (.ins KC dx [])) (fun v H2 => v = .non ∧ Q (.ref x) H2) E := by
  intro x dx hx hdx ne
  have far : Same H (upd (upd H dx (.own x)) x (.ins KC dx [])) := fun b o e => by
    rw [upd_ne (ne_of_none e hx), upd_ne (ne_of_none e hdx)]
    exact e
  have onw : ∀ {H'}, But x (upd (upd H dx (.own x)) x (.ins KC dx [])) H' → Same H H' := fun k b o e => k b o (far b o e) (ne_of_none e hx)
  refine ⟨x, dx, l, rs, rfl, upd_same, far _ _ hl, at_.same far, len, ok, ?_⟩
  rcases q with ⟨big, q⟩ | ⟨small, q⟩
  · exact .inl ⟨big, fun H' k => q H' (onw k)⟩
  · refine .inr ⟨small, fun t n H' k ht hk et en => ⟨rfl, q x H' (onw k) hx ⟨dx, t, n, onceR rs, hk, et, rfl, fun y hy => (at_.same (onw k)) y (onceR_sub y hy), en⟩⟩⟩
end
/-- what is shown to run as signs -/
inductive Spl (K : PySem.W.Frag) (C : Addr) (H : Hp) : V → Option (List Nat) → Prop
  | set {a : Addr} {S : List Nat} : Sg C H a S → Spl K C H (.ref a) (some S)
  | txt {l : List Nat} : SgT l → Spl K C H (.str (tx l)) (some (norm l))
  | bad {l : List Nat} : l.length ≤ 2000 → (l.all fun n => decide (n ∈ alpha)) = false → Spl K C H (.str (tx l)) none
  | off {x : V} {t : Value} : TyX K H x t → PySem.W.kitOne K t (.ref C) = some false → PySem.W.kitOne K t (.type "str") = some false → Spl K C H x none
theorem Sg.same {C : Addr} {H H' : Hp} {a : Addr} {S : List Nat} (h : Sg C H a S) (s : Same H H') : Sg C H' a S := h.at fun _ e => s _ _ e
theorem Spl.same {K : PySem.W.Frag} {C : Addr} {H H' : Hp} {x : V} {S : Option (List Nat)} (h : Spl K C H x S) (s : Same H H') : Spl K C H' x S := by
  cases h with
  | set g => exact .set (g.same s)
  | txt g => exact .txt g
  | bad g e => exact .bad g e
  | off t a b => exact .off (tyX_same t s) a b
theorem Spl.ask {K : PySem.W.Frag} {C : Addr} {H : Hp} {x : V} {S : Option (List Nat)} (h : Spl K C H x S) : Asked K C H x S.isSome := by
  cases h with
  | set g => exact .set g
  | @txt l g =>
    have z := Asked.txt (K := K) (C := C) (H := H) g.few
    rw [List.all_eq_true.mpr fun n hn => decide_eq_true (g.sub n hn)] at z
    exact z
  | bad g e =>
    have z := Asked.txt (K := K) (C := C) (H := H) g
    rw [e] at z
    exact z
  | off t a b => exact .off t a b
theorem Spl.opd {K : PySem.W.Frag} {C : Addr} {H : Hp} {x : V} {S : List Nat} (h : Spl K C H x (some S)) : Opd C H x S := by
  cases h with
  | set g => exact .inl ⟨_, rfl, g⟩
  | txt g => exact .inr ⟨_, rfl, g, rfl⟩
theorem Spl.few {K : PySem.W.Frag} {C : Addr} {H : Hp} {x : V} {S : List Nat} (h : Spl K C H x (some S)) : S.length ≤ 94 := by
  cases h with
  | set g => exact g.len
  | txt g => exact norm_len _
def runOk : Option (List Nat) → Option (Nat × Option Nat) → Option RunL
  | some [], _ => none
  | some (n :: S), some (l, m) => some (tx (n :: S), l, m)
  | _, _ => none
theorem bounds_some {K : PySem.W.Frag} {H : Hp} {y z : V} {a b : Bn} {l : Nat} {m : Option Nat} (h : boundsOk a b = some (l, m)) (ha : BnAt K H y a) (hb : BnAt K H z b) : y = .int (l : Nat) ∧ z = mostV m ∧ l ≤ 40 ∧ ∀ n, m = some n → l ≤ n ∧ n ≤ 40 := by
  cases a with
  | none => cases b <;> cases h
  | other => cases b <;> cases h
  | int i =>
    cases ha
    cases b with
    | other => cases h
    | none =>
      cases hb
      rw [bo_n] at h
      split at h
      · rename_i c
        have h := Option.some.inj h
        cases h
        exact ⟨by rw [Int.toNat_of_nonneg c.1], rfl, by omega, fun n z => by cases z⟩
      · cases h
    | int j =>
      cases hb
      rw [bo_i] at h
      split at h
      · rename_i c
        have h := Option.some.inj h
        cases h
        refine ⟨by rw [Int.toNat_of_nonneg c.1], ?_, by omega, fun n z => ?_⟩
        · show V.int j = V.int (j.toNat : Nat)
          rw [Int.toNat_of_nonneg (by omega)]
        · cases z
          omega
      · cases h
theorem tx_nil {S : List Nat} : (V.str (tx S) = V.str "") ↔ S = [] := by
  constructor
  · intro h
    have h2 : tx S = "" := V.str.inj h
    have h3 := congrArg (fun z : Str => z.cps.toList) h2
    have e : ("" : Str).cps.toList = [] := rfl
    rw [e] at h3
    simpa [tx] using h3
  · rintro rfl
    rfl
section
variable {P : Program} {w : World} {K : PySem.W.Frag} {mg : Str → Option Value} {base : Heap} {NC KC BK C : Addr}
/-- how Kind(..) is made -/
def CanKind (P : Program) (w : World) (K : PySem.W.Frag) (mg : Str → Option Value) (base : Heap) (NC KC BK : Addr) : Prop := ∃ f fd, Mk K KC f ∧ mg "Kind" = some (.ref KC) ∧ Binds K fd ["self", "rows"] [] ∧ FnOk P w K mg base (L2N.CX P w) 6 f fd ["self", "rows"] (spKInit NC KC BK)
def spRun (K : PySem.W.Frag) (NC KC BK C : Addr) : Sp := fun vs H Q E => ∃ (x y z : V) (S : Option (List Nat)) (a b : Bn), vs = [x, y, z] ∧ Spl K C H x S ∧ BnAt K H y a ∧ BnAt K H z b ∧
  (runOk S (boundsOk a b) = none → Raised H E BK) ∧ (∀ r, runOk S (boundsOk a b) = some r → GivesKind KC NC H Q [[r]])
set_option maxHeartbeats 20000000 in
theorem ok_run {f : Addr} {fd : FuncData} (F : FunD K "run" "Kind.run" (defArgs s_Kindrun) (defBody s_Kindrun) (defScope s_Kindrun) [.int 1, .int 1] [] f fd) (PB : Plain K mg "BadKind" BK) (M : CanKind P w K mg base NC KC BK)
    (S : Can P w K mg base CX0 "is_signs" ["thing"] 2 (spSigns K C)) (B : Can P w K mg base CX0 "are_bounds" ["least", "most"] 3 (spBounds K)) (O : Can P w K mg base CX0 "signs_of" ["thing"] 4 (spOf C)) : FnOk P w K mg base (L2N.CX P w) 8 f fd ["signs", "least", "most"] (spRun K NC KC BK C) := by
  obtain ⟨fS, fdS, GS, gS, kS, bS⟩ := S
  obtain ⟨fB, fdB, GB, gB, kB, bB⟩ := B
  obtain ⟨fO, fdO, GO, gO, kO, bO⟩ := O
  obtain ⟨fM, fdM, MM, gM, bM, GM⟩ := M
  have nd := sc_Kindrun.nd
  refine F.ok sc_Kindrun (fun vs H Q E h => ?_) (fun cdv A outer s H vs Q E hr h => ?_)
  · obtain ⟨x, y, z, S, a, b, rfl, _⟩ := h
    rfl
  · obtain ⟨x, y, z, S, a, b, rfl, hx, ha, hb, out, q⟩ := h
    have tk := L2N.takes_of (X := cxOf (L2N.CX P w) P w K mg base ["signs", "least", "most", "spelling"] "Kind.run" (defScope s_Kindrun) f cdv A outer s H E) (E := E) rfl rfl rfl rfl
    refine ⟨_, pss_cons (ps_if (PW.pt (pw_or (pt_not (pt_val (pe_call GS (hr.mono (by decide)) (by rfl) gS kS bS .nil pass0 (pa_cons (pv 0) pa_nil)))) (pw_or1 (pt_not (pt_val (pe_call GB (hr.mono (by decide)) (by rfl) gB kB bB .nil pass0 (pa_cons (pv 1) (pa_cons (pv 2) pa_nil)))))))) (pss_one (L2N.ps_raise rfl tk (pmk_plain PB rfl))) pss_nil)
      (pss_cons (ps_set (i := 3) nd rfl (.inl rfl) (pe_call GO (hr.mono (by decide)) (by rfl) gO kO bO .nil pass0 (pa_cons (pv 0) pa_nil)))
      (pss_cons (ps_if (pt_cmpR op_eq (pv 3) pe_str (nomark _)) (pss_one (L2N.ps_raise rfl tk (pmk_plain PB rfl))) pss_nil)
      (pss_one (ps_ret (pe_make MM GM hr (by rfl) gM bM .nil (L2N.passes_call tk (fun _ _ _ _ h => h)) (pa_cons (pe_lst (pa_cons (pe_tup (pa_cons (pe_tup (pa_cons (pv 3) (pa_cons (pv 1) (pa_cons (pv 2) pa_nil)))) pa_nil)) pa_nil)) pa_nil)))))), ?_⟩
    refine ⟨_, rfl, x, _, rfl, hx.ask, fun H1 s1 => ⟨_, rfl, ?_⟩⟩
    cases S with
    | none => exact iteT (out (by cases boundsOk a b <;> rfl) H1 s1)
    | some S =>
      refine iteF ?_
      refine ⟨_, rfl, _, rfl, y, z, a, b, rfl, ha.same s1, hb.same s1, _, rfl, ?_⟩
      cases hbo : boundsOk a b with
      | none =>
        rw [hbo] at out
        exact iteT (out (by cases S <;> rfl) H1 s1)
      | some lm =>
        obtain ⟨l, m⟩ := lm
        refine iteF ?_
        refine ⟨_, rfl, x, S, rfl, (hx.same s1).opd, fun H2 s2 => ?_⟩
        refine name_go ?_
        dsimp only
        have s02 := s1.trans s2
        refine ⟨_, rfl, rfl, _, rfl, ?_⟩
        obtain ⟨rfl, rfl, l40, mb⟩ := bounds_some hbo ha hb
        by_cases hS : S = []
        · subst hS
          refine (if_pos (decide_eq_true (tx_nil.mpr rfl))).mpr ?_
          rw [hbo] at out
          exact out rfl H2 s02
        · refine (if_neg (fun y => hS (tx_nil.mp (of_decide_eq_true y)))).mpr ?_
          have er : runOk (some S) (boundsOk a b) = some (tx S, l, m) := by
            rw [hbo]
            cases S with
            | nil => exact absurd rfl hS
            | cons n S => rfl
          have q := q _ er
          show _
          refine ⟨_, rfl, _, rfl, _, rfl, line_small (by show 3 ≤ 16777216; decide), fun p1 n1 => ?_⟩
          refine ⟨line_small (by show 1 ≤ 16777216; decide), fun p2 n2 => ?_⟩
          refine ⟨line_small (by show 1 ≤ 16777216; decide), fun p3 n3 => ?_⟩
          have k1 := same_new (o := .tup [.str (tx S), .int (l : Nat), mostV m]) n1
          have k2 := same_new (o := .tup [.ref p1]) n2
          have k3 := same_new (o := .lst [.ref p2]) n3
          have k := k1.trans (k2.trans k3)
          have e1 := k3 _ _ (k2 _ _ (upd_same (H := H2) (a := p1) (o := .tup [.str (tx S), .int (l : Nat), mostV m])))
          have e2 := k3 _ _ (upd_same (H := upd H2 p1 (.tup [.str (tx S), .int (l : Nat), mostV m])) (a := p2) (o := .tup [.ref p1]))
          have row := row_is (bs := [((tx S, l, m), p1)]) e2 (fun x hx => by rw [List.mem_singleton.mp hx]; exact e1)
          have pl : pcL l m ≤ 40 := by
            cases m with
            | none => exact Nat.max_le.mpr ⟨l40, by decide⟩
            | some n => exact (mb n rfl).2
          have okr : RunOk (tx S, l, m) := ⟨by show (tx S).cps.size ≤ 1000; simp only [tx, List.size_toArray]; have := hx.few; omega, fun n e => (mb n e).1, by show pcL l m ≤ 500; omega⟩
          refine make_kind (rs := [([(tx S, l, m)], p2)]) upd_same (fun x hx => by rw [List.mem_singleton.mp hx]; exact row) (by show 1 ≤ 1000; decide) (fun x hx r hr => by
            rw [List.mem_singleton.mp hx] at hr
            rw [List.mem_singleton.mp hr]
            exact okr) (.inr ⟨?_, fun kk H' s3 n4 at_ => q kk H' ((s02.trans k).trans s3) ((s02.trans k).free n4) at_⟩)
          show (decide (20 < 1) || (([([(tx S, l, m)], p2)] : Rws).any fun x => decide (20 < x.1.length)) || decide (120 < (placesRs [([(tx S, l, m)], p2)]).sum)) = false
          have es : (placesRs [([(tx S, l, m)], p2)]).sum = pcL l m := by
            unfold placesRs placesR pcR
            simp
          rw [es, decide_eq_false (show ¬ 120 < pcL l m by omega)]
          rfl
/-- what is shown to words and is refused -/
inductive WBad (K : PySem.W.Frag) (C : Addr) (H : Hp) : V → Prop
  | off {x : V} {t : Value} : TyX K H x t → PySem.W.kitOne K t (.type "list") = some false → PySem.W.kitOne K t (.type "tuple") = some false → WBad K C H x
  | lst {a : Addr} {xs : List V} : H a = some (.lst xs) → xs.length ≤ 1000 → ¬ (1 ≤ xs.length ∧ xs.length ≤ 20) → WBad K C H (.ref a)
  | tup {a : Addr} {xs : List V} : H a = some (.tup xs) → xs.length ≤ 1000 → ¬ (1 ≤ xs.length ∧ xs.length ≤ 20) → WBad K C H (.ref a)
  | bad {a : Addr} {xs : List V} {bs : List Bool} : H a = some (.lst xs) → 1 ≤ xs.length → xs.length ≤ 20 → bs.length = xs.length → (∀ (i : Nat) (x : V) (b : Bool), xs[i]? = some x → bs[i]? = some b → Short K C H x b) → bs.all id = false → WBad K C H (.ref a)
theorem Short.same {H H' : Hp} {x : V} {b : Bool} (h : Short K C H x b) (s : Same H H') : Short K C H' x b := by
  cases h with
  | txt g => exact .txt g
  | off t a b => exact .off (tyX_same t s) a b
def spWordsBad (K : PySem.W.Frag) (C BK : Addr) : Sp := fun vs H _ E => ∃ x : V, vs = [x] ∧ WBad K C H x ∧ Raised H E BK
set_option maxHeartbeats 20000000 in
theorem ok_words {f : Addr} {fd : FuncData} (F : FnP K "words" "Kind.words" s_Kindwords f fd) (N : Nms mg) (Co : Cons mg) (PB : Plain K mg "BadKind" BK) (R : Can P w K mg base CX0 "is_row" ["thing"] 1 (spRow K)) (S : Can P w K mg base CX0 "is_short_text" ["thing"] 2 (spShort K C)) :
    FnOk P w K mg base (L2N.CX P w) 3 f fd ["texts"] (spWordsBad K C BK) := by
  obtain ⟨fR, fdR, GR, gR, kR, bR⟩ := R
  obtain ⟨fS, fdS, GS, gS, kS, bS⟩ := S
  obtain ⟨tT, gT⟩ := Co.texts
  have nd := sc_Kindwords.nd
  refine F.ok sc_Kindwords (fun vs H Q E h => ?_) (fun cdv A outer s H vs Q E hr h => ?_)
  · obtain ⟨x, rfl, _⟩ := h
    rfl
  · obtain ⟨x, rfl, bad, out⟩ := h
    have tk := L2N.takes_of (X := cxOf (L2N.CX P w) P w K mg base ["texts", "text", "sign"] "Kind.words" (defScope s_Kindwords) f cdv A outer s H E) (E := E) rfl rfl rfl rfl
    refine ⟨_, pss_cons (ps_if (PW.pt (pw_or (pt_not (pt_val (pe_call GR (hr.mono (by decide)) (by rfl) gR kR bR .nil pass0 (pa_cons (pv 0) pa_nil)))) (pw_or1 (pt_not (pt_chain op_le op_le pe_int (pe_callB call_len_seq (by rfl) N.len PySem.boot_len (pa_cons (pv 0) pa_nil)) (pe_glob (v := .int 20) (by rfl) gT ⟨_, rfl⟩)))))) (pss_one (L2N.ps_raise rfl tk (pmk_plain PB rfl))) pss_nil)
      (pss_cons (ps_if (pt_not (pt_val (pe_callB (cr_all rfl) (by rfl) N.all (by decide +kernel) (pa_cons (pe_lc (own := [("text", 1)]) (g := gName 1) (tt := tYes) rfl nd (pi_list (pv 0)) (blkOk_by (N := ["texts", "text", "sign"]) (sc := defScope s_Kindwords) (by decide +kernel)) (fun _ _ _ _ _ => pg_name (i := 1) nd rfl (Or.inl rfl)) (fun _ _ _ _ _ => pts_nil)
          (fun _ _ _ _ _ => pe_call GS hr (by rfl) gS kS bS .nil pass0 (pa_cons (pv 1) pa_nil))) pa_nil)))) (pss_one (L2N.ps_raise rfl tk (pmk_plain PB rfl))) pss_nil)
      (pss_one ps_never)), ?_⟩
    cases bad with
    | off ty k1 k2 => exact ⟨_, rfl, x, _, false, false, rfl, ty, k1, k2, fun H1 s1 => ⟨_, rfl, iteT (out H1 s1)⟩⟩
    | @lst a xs e len no =>
      refine ⟨_, rfl, _, _, true, false, rfl, .base (.lst e), kit_ty (by decide +kernel), kit_ty (by decide +kernel), fun H1 s1 => ⟨_, rfl, iteF ?_⟩⟩
      refine ⟨_, rfl, a, xs, rfl, .inl (SqL.of (s1 _ _ e)), _, _, rfl, rfl, _, rfl, ?_⟩
      by_cases h1 : 1 ≤ xs.length
      · refine (if_pos (decide_eq_true (by omega))).mpr ?_
        refine ⟨_, _, rfl, rfl, _, rfl, ?_⟩
        have d : decide (((xs.length : Nat) : Int) ≤ 20) = false := decide_eq_false (by omega)
        rw [d]
        exact iteT (out H1 s1)
      · refine (if_neg (by simp; omega)).mpr ?_
        exact ⟨_, rfl, iteT (out H1 s1)⟩
    | @tup a xs e len no =>
      refine ⟨_, rfl, _, _, false, true, rfl, .base (.tup e), kit_ty (by decide +kernel), kit_ty (by decide +kernel), fun H1 s1 => ⟨_, rfl, iteF ?_⟩⟩
      refine ⟨_, rfl, a, xs, rfl, .inr (SqT.of (s1 _ _ e)), _, _, rfl, rfl, _, rfl, ?_⟩
      by_cases h1 : 1 ≤ xs.length
      · refine (if_pos (decide_eq_true (by omega))).mpr ?_
        refine ⟨_, _, rfl, rfl, _, rfl, ?_⟩
        have d : decide (((xs.length : Nat) : Int) ≤ 20) = false := decide_eq_false (by omega)
        rw [d]
        exact iteT (out H1 s1)
      · refine (if_neg (by simp; omega)).mpr ?_
        exact ⟨_, rfl, iteT (out H1 s1)⟩
    | @bad a xs bs e l1 l20 lb sh all =>
      refine ⟨_, rfl, _, _, true, false, rfl, .base (.lst e), kit_ty (by decide +kernel), kit_ty (by decide +kernel), fun H1 s1 => ⟨_, rfl, iteF ?_⟩⟩
      refine ⟨_, rfl, a, xs, rfl, .inl (SqL.of (s1 _ _ e)), _, _, rfl, rfl, _, rfl, ?_⟩
      refine (if_pos (decide_eq_true (by omega))).mpr ?_
      refine ⟨_, _, rfl, rfl, _, rfl, ?_⟩
      have d : decide (((xs.length : Nat) : Int) ≤ 20) = true := decide_eq_true (by omega)
      rw [d]
      refine iteF ?_
      dsimp only
      have e1 := s1 _ _ e
      refine ⟨_, rfl, a, rfl, ⟨_, SqL.of e1⟩, fun D hD => ?_⟩
      refine lc_it (n := xs.length) walk_list (fun i H' => H' D = some (.lst ((bs.take i).map V.bl)) ∧ Same H1 H') ⟨upd_same, same_new hD⟩ (fun i H' _ h => SqL.of (h.2 _ _ e1)) ?_ ?_
      · rintro i x _ H2 hi ⟨e2, sm⟩ ⟨rfl, hx⟩
        have hb : i < bs.length := by omega
        refine ⟨rfl, yes_keep ?_⟩
        refine ⟨_, rfl, x, bs[i], rfl, ((sh i x bs[i] hx (List.getElem?_eq_getElem hb)).same (s1.trans sm)), fun H3 s3 => ?_⟩
        refine ⟨_, s3 _ _ e2, ?_, ?_, fun b o z => ?_⟩
        · rw [List.length_map, List.length_take]
          exact small1000 (by omega)
        · rw [upd_same, List.take_add_one, List.getElem?_eq_getElem hb, List.map_append]
          rfl
        · rw [upd_ne (ne_of_none z hD)]
          exact s3 _ _ (sm _ _ z)
      · rintro H2 ⟨e2, sm⟩
        rw [List.take_of_length_le (by omega)] at e2
        refine ⟨D, bs, rfl, SqL.of e2, _, rfl, ?_⟩
        rw [all]
        exact iteT (out H2 (s1.trans sm))
end
end K06

set_option autoImplicit false
set_option maxErrors 4
namespace K06
open PySem PySem.Spec PyProof.Rows L2 Tl
open L2N (Zn)
/-! ### alternatives; times, refused -/
def runD (r : RunL) : PyData := .tuple [.str r.1, .int (r.2.1 : Nat), r.2.2.elim .none fun n => .int (n : Nat)]
def rowD (r : RowL) : PyData := .tuple (r.map runD)
def rowsD (rs : List RowL) : PyData := .tuple (rs.map rowD)
theorem most_dp {K : PySem.W.Frag} {H : Hp} (m : Option Nat) : Dp K H (mostV m) (m.elim .none fun n => .int (n : Nat)) := by
  cases m with
  | none => exact .non
  | some n => exact .int _
theorem run_dp {K : PySem.W.Frag} {H : Hp} {b : Addr} {r : RunL} (h : RunAt H b r) : Dp K H (.ref b) (runD r) := .tup (SqT.of h) (.cons (.str _) (.cons (.int _) (.cons (most_dp _) .nil)))
theorem runs_dp {K : PySem.W.Frag} {H : Hp} : ∀ {bs : Rns}, (∀ x ∈ bs, RunAt H x.2 x.1) → DpAll K H (runsV bs) ((bs.map (·.1)).map runD)
  | [], _ => .nil
  | x :: bs, h => .cons (run_dp (h x List.mem_cons_self)) (runs_dp fun y hy => h y (List.mem_cons_of_mem _ hy))
theorem row_dp {K : PySem.W.Frag} {H : Hp} {r : RowL} {a : Addr} (h : NkV H (rowK r) (.ref a)) : Dp K H (.ref a) (rowD r) := by
  obtain ⟨bs, e1, e2, e3⟩ := row_at h
  subst e1
  exact .tup (SqT.of e2) (runs_dp e3)
theorem rows_dp {K : PySem.W.Frag} {H : Hp} : ∀ {rs : Rws}, RowsAt H rs → DpAll K H (rowsV rs) ((rs.map (·.1)).map rowD)
  | [], _ => .nil
  | x :: rs, h => .cons (row_dp (h x List.mem_cons_self)) (rows_dp fun y hy => h y (List.mem_cons_of_mem _ hy))
/-- what is told of a run: refused, or its alternatives -/
def resD : Option RunL → PyData
  | none => .tuple [.str "refused", .bool true]
  | some r => .tuple [.str "kind", rowsD [[r]]]
/-- an int or another value that is no right number of times -/
inductive Tim (H : Hp) : V → Prop
  | int (n : Int) : ¬ (1 ≤ n ∧ n ≤ 9) → Tim H (.int n)
  | bl (b : Bool) : Tim H (.bl b)
  | non : Tim H .non
  | str : Tim H (.str "2")
  | lst {a : Addr} : H a = some (.lst [.int 2]) → Tim H (.ref a)
theorem Tim.same {H H' : Hp} {x : V} (h : Tim H x) (s : Same H H') : Tim H' x := by
  cases h with
  | int n no => exact .int n no
  | bl b => exact .bl b
  | non => exact .non
  | str => exact .str
  | lst e => exact .lst (s _ _ e)
theorem Tim.pl {H : Hp} {x : V} (h : Tim H x) : ∃ T, Pl H x T := by
  cases h with
  | int n _ => exact ⟨_, .int n⟩
  | bl b => exact ⟨_, .bl b⟩
  | non => exact ⟨_, .non⟩
  | str => exact ⟨_, .str _⟩
  | lst e => exact ⟨_, .lst e⟩
theorem Tim.dp {K : PySem.W.Frag} {H : Hp} {x : V} (h : Tim H x) : ∃ D, Dp K H x D ∧ SeqAt.shaped D = true := by
  cases h with
  | int n _ => exact ⟨_, .int n, rfl⟩
  | bl b => exact ⟨_, .bl b, rfl⟩
  | non => exact ⟨_, .non, rfl⟩
  | str => exact ⟨_, .str _, by decide +kernel⟩
  | lst e => exact ⟨_, .lst (SqL.of e) (.cons (.int 2) .nil), rfl⟩
theorem eqv_self {D : PyData} (h : SeqAt.shaped D = true) : PyData.eqv D D = true := PySem.SeqAt.eqv_refl_plain _ (PySem.PyData.plain_of_canLay0 _ (SeqAt.canLay_of_shaped h))
theorem Tim.no {K : PySem.W.Frag} {H : Hp} {x : V} (h : Tim H x) : (∃ n, x = .int n ∧ ¬ (1 ≤ n ∧ n ≤ 9)) ∨ NoInt K H x := by
  cases h with
  | int n no => exact .inl ⟨n, rfl, no⟩
  | bl b => exact .inr (noInt_bl b)
  | non => exact .inr noInt_non
  | str => exact .inr (noInt_str _)
  | lst e => exact .inr (noInt_lst e)
theorem nothingOut {X : Cx} : L2N.Takes X (fun _ _ _ _ => False) := fun _ _ x => by
  obtain ⟨_, _, _, _, _, _, _, _, _, _, _, _, _, _, _, _, w⟩ := x
  exact w.elim
theorem look1 {f : Str} {v : V} : [(f, v)].lookup f = some v := by simp [List.lookup]
section
variable {P : Program} {w : World} {K : PySem.W.Frag} {mg : Str → Option Value} {base : Heap} {NC KC BK BN : Addr}
def spIni (C : Addr) (f : Str) : Sp := fun vs H Q _ => ∃ (a : Addr) (v : V), vs = [.ref a, v] ∧ H a = some (exo a C none) ∧ ∀ dx, H dx = none → dx ≠ a → Q .non (upd (upd H dx (exd dx [(f, v)])) a (exo a C (some dx)))
structure Ini (P : Program) (w : World) (K : PySem.W.Frag) (mg : Str → Option Value) (base : Heap) (x f : Str) (C : Addr) : Prop where
  g : mg x = some (.ref C)
  c : OexC K C
  i : ∃ (fI : Addr) (fd : FuncData), FnOk P w K mg base CX0 1 fI fd ["self", f] (spIni C f) ∧ PySem.W.findIn K (.ref C) "__init__" = some (some (.ref fI)) ∧ PySem.W.typeIn K (.ref fI) = some (.type "function") ∧ Binds K fd ["self", f] []
theorem pmk_ini {X : Cx} {x y f : Str} {C : Addr} {i : Nat} {p p2 pos : Pos} (h : Ini X.prog X.w X.K X.mg X.base x f C) (hr : Room 2 X.A) (hg : Gl X x) (hv : PE X (.Name y p2) (tVar i)) (hdb : (x == ("__debug__" : Str)) = false := by decide)
    (he : starEach [.Name y p2] X.env = (false, eval (.Name y p2) X.env) :: starEach [] X.env := by rfl) (hpl : (backTo pos (starEach [] X.env)).any (·.1) = false := by rfl) :
    L2N.PMk X (.Call (.Name x p) [.Name y p2] [] pos) (fun σ H Q => ∃ v, σ[i]? = some (some v) ∧ ∀ d H', Same H H' → H' d = some (.xd [(f, v)]) → Q (.ref C) (some d) H') := by
  obtain ⟨fI, fd, G, at_, ty, bd⟩ := h.i
  intro pins s σ H Q I q
  obtain ⟨v, ev, q⟩ := q
  refine pmkN_oex h.c at_ ty G hr bd pass0 hg h.g (pa_cons hv pa_nil) hdb he hpl pins s σ H Q I ⟨v, ev, ?_⟩
  refine ⟨by show 1 ≤ 1000; decide, fun a na => ⟨a, v, rfl, upd_same, fun dx nd ne => ⟨rfl, dx, [(f, v)], upd_same, ?_, ?_, q _ _ (fun b o e => ?_) upd_same⟩⟩⟩
  · rw [upd_ne ne, upd_same]
  · rw [upd_ne ne] at nd
    exact nd
  · rw [upd_ne ne] at nd
    have e1 : b ≠ dx := ne_of_none e nd
    have e2 : b ≠ a := ne_of_none e na
    rw [upd_ne e1, del_ne e2, upd_ne e2, upd_ne e1, upd_ne e2]
    exact e
theorem ok_BadNumber {C f : Addr} {fd : FuncData} (F : FnP K "__init__" "BadNumber.__init__" s_BadNumber_init_ f fd) (T : OexC K C) (no : PySem.W.findIn K (.ref C) "number" = some none) : FnOk P w K mg base CX0 1 f fd ["self", "number"] (spIni C "number") := by
  refine F.ok sc_BadNumber_init_ (fun vs H Q E h => ?_) (fun cdv A outer s H vs Q E hr h => ?_)
  · obtain ⟨a, v, rfl, _⟩ := h
    rfl
  · obtain ⟨a, v, rfl, e, q⟩ := h
    exact ⟨_, PSs.nox (pss_one (ps_ost (pv 0) (pv 1))), _, rfl, _, rfl, a, C, rfl, T, no, .inl ⟨e, q⟩⟩
def spAlts (KC : Addr) : Sp := fun vs H Q _ => ∃ (k : Addr) (rows : List RowL), vs = [.ref k] ∧ KindL KC H k rows ∧ ∀ (t : Addr) (rs : Rws), H t = some (.tup (rowsV rs)) → rs.map (·.1) = rows → RowsAt H rs → Q (.ref t) H
theorem ok_alts {f : Addr} {fd : FuncData} (F : FnP K "alternatives" "Kind.alternatives" s_Kindalternatives f fd) (T : KindC K KC) : FnOk P w K mg base CX0 1 f fd ["self"] (spAlts KC) := by
  refine F.ok sc_Kindalternatives (fun vs H Q E h => ?_) (fun cdv A outer s H vs Q E hr h => ?_)
  · obtain ⟨k, rows, rfl, _⟩ := h
    rfl
  · obtain ⟨k, rows, rfl, ⟨dx, t, n, rs, h1, h2, h3, h4⟩, q⟩ := h
    exact ⟨_, PSs.nox (pss_one (ps_ret (pe_fld (pv 0) rfl))), _, rfl, k, KC, dx, _, _, rfl, h1, T.cl, T.n1, lk_hit, q t rs h2 h3 h4⟩
abbrev Numbered (H : Hp) (E : XK) (BN : Addr) (x : V) : Prop := ∀ d H', Same H H' → H' d = some (.xd [("number", x)]) → E (.ref BN) (some d) H'
def spMulBad (BN : Addr) : Sp := fun vs H _ E => ∃ (a : Addr) (x : V), vs = [.ref a, x] ∧ Tim H x ∧ Numbered H E BN x
theorem ok_mul {f : Addr} {fd : FuncData} (F : FnP K "__mul__" "Kind.__mul__" s_Kind_mul_ f fd) (Co : Cons mg) (PN : Ini P w K mg base "BadNumber" "number" BN) (I : Can P w K mg base CX0 "is_integer_within" ["thing", "low", "high"] 2 (spWithin K)) :
    FnOk P w K mg base (L2N.CX P w) 3 f fd ["self", "other"] (spMulBad BN) := by
  obtain ⟨fI, fdI, GI, gI, kI, bI⟩ := I
  obtain ⟨tB, gB⟩ := Co.times
  refine F.ok sc_Kind_mul_ (fun vs H Q E h => ?_) (fun cdv A outer s H vs Q E hr h => ?_)
  · obtain ⟨a, x, rfl, _⟩ := h
    rfl
  · obtain ⟨a, x, rfl, tm, out⟩ := h
    have tk := L2N.takes_of (X := cxOf (L2N.CX P w) P w K mg base ["self", "other", "whole", "step"] "Kind.__mul__" (defScope s_Kind_mul_) f cdv A outer s H E) (E := E) rfl rfl rfl rfl
    refine ⟨_, pss_cons (ps_if (pt_not (pt_val (pe_call GI hr (by rfl) gI kI bI .nil pass0 (pa_cons (pv 1) (pa_cons pe_int (pa_cons (pe_glob (v := .int 9) (by rfl) gB ⟨_, rfl⟩) pa_nil)))))) (pss_one (L2N.ps_raise rfl tk (pmk_ini PN hr rfl (pv 1)))) pss_nil)
      (pss_cons ps_never (pss_cons ps_never (pss_one ps_never))), ?_⟩
    refine ⟨_, rfl, x, 1, 9, rfl, ?_⟩
    rcases tm.no (K := K) with ⟨n, rfl, no⟩ | no
    · refine .inl ⟨n, rfl, _, rfl, ?_⟩
      rw [decide_eq_false no]
      exact iteT ⟨_, rfl, out⟩
    · exact .inr ⟨no, _, rfl, iteT ⟨_, rfl, out⟩⟩
def spRmulBad (KC BN : Addr) : Sp := fun vs H _ E => ∃ (a dx : Addr) (fs : List (Str × V)) (x : V), vs = [.ref a, x] ∧ H a = some (.ins KC dx fs) ∧ Tim H x ∧ Numbered H E BN x
theorem ok_rmul {f fM gM : Addr} {fd fdM : FuncData} (F : FnP K "__rmul__" "Kind.__rmul__" s_Kind_rmul_ f fd) (GM : FnOk P w K mg base (L2N.CX P w) 3 fM fdM ["self", "other"] (spMulBad BN)) (bM : Binds K fdM ["self", "other"] []) (M : MulC K KC fM gM) :
    FnOk P w K mg base (L2N.CX P w) 4 f fd ["self", "other"] (spRmulBad KC BN) := by
  refine F.ok sc_Kind_rmul_ (fun vs H Q E h => ?_) (fun cdv A outer s H vs Q E hr h => ?_)
  · obtain ⟨a, dx, fs, x, rfl, _⟩ := h
    rfl
  · obtain ⟨a, dx, fs, x, rfl, ha, tm, out⟩ := h
    have tk := L2N.takes_of (X := cxOf (L2N.CX P w) P w K mg base ["self", "other"] "Kind.__rmul__" (defScope s_Kind_rmul_) f cdv A outer s H E) (E := E) rfl rfl rfl rfl
    refine ⟨_, pss_one (ps_ret (pe_opS (op_mulL M GM hr bM (L2N.passAt tk)) (pv 0) (pv 1))), ?_⟩
    obtain ⟨T, pl⟩ := tm.pl
    exact ⟨_, rfl, _, rfl, a, dx, fs, T, rfl, ha, pl, a, x, rfl, tm, out⟩
def spTimes (KC : Addr) : Sp := fun vs H Q _ => ∃ (k : Addr) (rows : List RowL) (x : V), vs = [.ref k, x] ∧ KindL KC H k rows ∧ Tim H x ∧ ∀ H', Same H H' → Q (.bl true) H'
theorem ok_times {f fM gM : Addr} {fd fdM fdR : FuncData} {T A : Addr} (F : FnP K "_law_times_refused" "_law_times_refused" s_l_times_refused f fd) (N : Nms mg) (gN : mg "BadNumber" = some (.ref BN)) (no : PySem.W.findIn K (.ref BN) "number" = some none) (Er : Errs K A BN T)
    (GM : FnOk P w K mg base (L2N.CX P w) 3 fM fdM ["self", "other"] (spMulBad BN)) (bM : Binds K fdM ["self", "other"] []) (GR : FnOk P w K mg base (L2N.CX P w) 4 gM fdR ["self", "other"] (spRmulBad KC BN)) (bR : Binds K fdR ["self", "other"] []) (M : MulC K KC fM gM) :
    FnOk P w K mg base CX0 5 f fd ["_law_kind", "_law_times"] (spTimes KC) := by
  have nd := sc_l_times_refused.nd
  refine F.ok sc_l_times_refused (fun vs H Q E h => ?_) (fun cdv A outer s H vs Q E hr h => ?_)
  · obtain ⟨k, rows, x, rfl, _⟩ := h
    rfl
  · obtain ⟨k, rows, x, rfl, kat, tm, q⟩ := h
    have suite : ∀ {X : Cx} (hu : X.A.units + 64 < cLine) (hm : X.mg "int" = none) (nd : X.N.Nodup), True := fun _ _ _ => trivial
    refine ⟨_, pss_cons (ps_set (i := 2) nd rfl (.inl rfl) pe_int)
      (pss_cons (ps_try_named (l := [(.ref BN, 4, _)]) rfl rfl nd (nothingOut) (fun W pn xe tk _ => pss_cons (ps_set (i := 3) nd rfl (.inl rfl) (pe_opS (op_mulL M GM (hr.mono (by decide)) bM (L2N.passAt tk)) (pv 0) (pv 1))) (pss_one ps_never))
        (Clauses.more ⟨rfl, by decide, .inl gN⟩ rfl rfl (fun a oe cls d pn z fz => pss_one (ps_set (i := 2) nd rfl (.inl rfl) (pe_op op_add (pv 2) (pe_callTy call_int1 (by rfl) N.int (by decide +kernel) (pa_cons (pe_cmpR (r := rEqD K) (op_eqD hr.units) (pe_xf Er.xB no z.zc fz (pv 4)) (pv 1) (nomark _)) pa_nil))))) Clauses.none))
      (pss_cons (ps_try_named (l := [(.ref BN, 4, _)]) rfl rfl nd (nothingOut) (fun W pn xe tk _ => pss_cons (ps_set (i := 3) nd rfl (.inl rfl) (pe_opS (op_mulR M GR hr bR (L2N.passAt tk)) (pv 1) (pv 0))) (pss_one ps_never))
        (Clauses.more ⟨rfl, by decide, .inl gN⟩ rfl rfl (fun a oe cls d pn z fz => pss_one (ps_set (i := 2) nd rfl (.inl rfl) (pe_op op_add (pv 2) (pe_callTy call_int1 (by rfl) N.int (by decide +kernel) (pa_cons (pe_cmpR (r := rEqD K) (op_eqD hr.units) (pe_xf Er.xB no z.zc fz (pv 4)) (pv 1) (nomark _)) pa_nil))))) Clauses.none))
      (pss_one (ps_ret (pe_cmpR op_eq (pv 2) pe_int (nomark _)))))), ?_⟩
    obtain ⟨T, pl⟩ := tm.pl
    obtain ⟨dx, t, n, rs, h1, h2, h3, h4⟩ := id kat
    refine ⟨_, rfl, _, rfl, k, dx, _, T, rfl, h1, pl, k, x, rfl, tm, fun d H1 s1 e1 => ⟨true, Er.mB, (fun z => by cases z), fun _ p np => ?_⟩⟩
    obtain ⟨D, dp, sh⟩ := (tm.same s1).dp (K := K)
    refine ⟨_, rfl, _, rfl, rfl, rfl, d, _, x, rfl, e1, look1, _, rfl, D, D, dp, dp, sh, sh, .inr ⟨_, rfl, ?_⟩⟩
    rw [eqv_self sh]
    refine ⟨_, _, rfl, rfl, ?_⟩
    obtain ⟨T2, pl2⟩ := (tm.same s1).pl
    refine ⟨_, rfl, _, rfl, k, dx, _, T2, rfl, s1 _ _ h1, pl2, k, dx, _, x, rfl, s1 _ _ h1, tm.same s1, fun d2 H2 s2 e2 => ⟨true, Er.mB, (fun z => by cases z), fun _ p np => ?_⟩⟩
    obtain ⟨D, dp, sh⟩ := (tm.same (s1.trans s2)).dp (K := K)
    refine ⟨_, rfl, _, rfl, rfl, rfl, d2, _, x, rfl, e2, look1, _, rfl, D, D, dp, dp, sh, sh, .inr ⟨_, rfl, ?_⟩⟩
    rw [eqv_self sh]
    refine ⟨_, _, rfl, rfl, ?_⟩
    exact ⟨_, rfl, rfl, q H2 (s1.trans s2)⟩
end
end K06

set_option autoImplicit false
set_option maxErrors 4
namespace Tl
open PySem PySem.Spec PyProof.Rows L2
open L2N (Zn)
/-- isinstance by a word that doesn't name the object -/
def rIsA (K : PySem.W.Frag) (a : Addr) (cls : Value) (d : Option Addr) : List V → Hp → VK → Prop := fun xs H Q => ∃ (D : Addr) (c : V) (cv : Value) (b : Bool), cls = .ref D ∧ xs = [.ref a, c] ∧ ExcC K D ∧ (∀ dx, d = some dx → ∃ fs, H dx = some (.xd fs)) ∧
  (∀ u, RelV c u → u = cv) ∧ PySem.W.kitOne K (.ref D) cv = some b ∧ Q (.bl b) H
theorem call_isA {X : Cx} {K : PySem.W.Frag} {a : Addr} {oe : Obj} {cls : Value} {d : Option Addr} (eK : X.K = K) (hp : (a, oe) ∈ X.pn) (z : Zn cls d oe) (f : ∃ vs, oe.data = .fields vs) : CallR X (.builtin "isinstance") (rIsA K a cls d) := fun pins s σ H xs us Q I r h => by
  subst eK
  obtain ⟨D, c, cv, b, rfl, e, C, hd, hc, hk, q⟩ := h
  exact call_isP hp pins s σ H xs us Q I r ⟨D, d, c, cv, b, e, C, z, f, hd, hc, hk, q⟩
end Tl

set_option autoImplicit false
set_option maxErrors 4
namespace K06
open PySem PySem.Spec PyProof.Rows L2 Tl
open L2N (Zn)
/-! ### what the law tells and what it asks -/
theorem pair_dp {K : PySem.W.Frag} {H : Hp} {t : Addr} {x y : V} {d e : PyData} (h : H t = some (.tup [x, y])) (dx : Dp K H x d) (dy : Dp K H y e) : Dp K H (.ref t) (.tuple [d, e]) := .tup (SqT.of h) (.cons dx (.cons dy .nil))
theorem resD_none {K : PySem.W.Frag} {H : Hp} {t : Addr} (h : H t = some (.tup [.str "refused", .bl true])) : Dp K H (.ref t) (resD none) := pair_dp h (.str _) (.bl true)
section
variable {P : Program} {w : World} {K : PySem.W.Frag} {mg : Str → Option Value} {base : Heap} {NC KC BK BN T C : Addr}
def spTold (K : PySem.W.Frag) (C : Addr) : Sp := fun vs H Q _ => ∃ (x y z : V) (S : Option (List Nat)) (a b : Bn), vs = [x, y, z] ∧ Spl K C H x S ∧ BnAt K H y a ∧ BnAt K H z b ∧
  ∀ t H', Same H H' → H t = none → Dp K H' (.ref t) (resD (runOk S (boundsOk a b))) → Q (.ref t) H'
set_option maxHeartbeats 20000000 in
theorem ok_told {f fR fA : Addr} {fd fdR fdA : FuncData} (F : FnP K "_law_run_told" "_law_run_told" s_l_run_told f fd) (N : Nms mg) (gK : mg "Kind" = some (.ref KC)) (gB : mg "BadKind" = some (.ref BK)) (gT : mg "TownError" = some (.ref T)) (Er : Errs K BK BN T) (KK : KindC K KC)
    (SR : Stat K KC "run" fR) (GR : FnOk P w K mg base (L2N.CX P w) 8 fR fdR ["signs", "least", "most"] (spRun K NC KC BK C)) (bR : Binds K fdR ["signs", "least", "most"] [])
    (MA : Meth K KC "alternatives" fA) (GA : FnOk P w K mg base CX0 1 fA fdA ["self"] (spAlts KC)) (bA : Binds K fdA ["self"] []) : FnOk P w K mg base CX0 9 f fd ["_law_shown", "_law_low", "_law_top"] (spTold K C) := by
  have nd := sc_l_run_told.nd
  refine F.ok sc_l_run_told (fun vs H Q E h => ?_) (fun cdv A outer s H vs Q E hr h => ?_)
  · obtain ⟨x, y, z, S, a, b, rfl, _⟩ := h
    rfl
  · obtain ⟨x, y, z, S, a, b, rfl, hx, ha, hb, q⟩ := h
    have r1 := hr.mono (show 1 ≤ 8 by decide)
    refine ⟨_, pss_one (ps_try_named (l := [(.ref BK, 3, _)]) rfl rfl nd (nothingOut) (fun W pn xe tk _ => pss_one (ps_ret (pe_tup (pa_cons pe_str (pa_cons (pe_meth0 (pe_stat SR GR hr (by rfl) gK bR .nil (L2N.passAt tk) (pa_cons (pv 0) (pa_cons (pv 1) (pa_cons (pv 2) pa_nil)))) KK.cl MA GA r1 bA .nil pass0) pa_nil)))))
      (Clauses.more ⟨rfl, by decide, .inl gB⟩ rfl rfl (fun a oe cls d pn z fz => pss_one (ps_ret (pe_tup (pa_cons pe_str (pa_cons (pe_callB (call_isA (K := K) rfl List.mem_cons_self z fz) (by rfl) N.isi (by decide +kernel) (pa_cons (pv 3) (pa_cons (pe_glob (v := .ref T) rfl gT rfl) pa_nil))) pa_nil))))) Clauses.none)), ?_⟩
    refine ⟨_, rfl, _, rfl, _, rfl, x, y, z, S, a, b, rfl, hx, ha, hb, fun no H1 s1 => ?_, fun r yes => ?_⟩
    · refine ⟨true, Er.mA, (fun z => by cases z), fun _ p np => ?_⟩
      refine ⟨_, rfl, BK, .ref T, .ref T, true, rfl, rfl, Er.eA, (fun dx e => by cases e), (fun _ r => r), Er.tA, ?_⟩
      refine ⟨line_small (by show 2 ≤ 16777216; decide), fun t ht => ?_⟩
      rw [no] at q
      exact q t _ (s1.trans (same_new ht)) (s1.free ht) (resD_none upd_same)
    · intro k H1 s1 nk kat
      obtain ⟨dx, t, n, rs, h1, h2, h3, h4, h5⟩ := id kat
      refine ⟨k, dx, _, rfl, h1, ?_, k, _, rfl, kat.lite, fun t rs h2 h3 h4 => ?_⟩
      · exact (lk_ne (by decide +kernel)).trans ((lk_ne (by decide +kernel)).trans lk_nil)
      refine ⟨line_small (by show 2 ≤ 16777216; decide), fun u hu => ?_⟩
      have k1 := same_new (o := .tup [.str "kind", .ref t]) hu
      rw [yes] at q
      refine q u _ (s1.trans k1) (s1.free hu) (pair_dp upd_same (.str _) ?_)
      rw [← h3]
      exact .tup (SqT.of (k1 _ _ h2)) (rows_dp (h4.same k1))
def spWTold (K : PySem.W.Frag) (C : Addr) : Sp := fun vs H Q _ => ∃ x : V, vs = [x] ∧ WBad K C H x ∧ ∀ t H', Same H H' → H t = none → Dp K H' (.ref t) (resD none) → Q (.ref t) H'
theorem ok_wtold {f fR fA : Addr} {fd fdR fdA : FuncData} (F : FnP K "_law_words_told" "_law_words_told" s_l_words_told f fd) (N : Nms mg) (mv : mg "ValueError" = none) (gK : mg "Kind" = some (.ref KC)) (gB : mg "BadKind" = some (.ref BK)) (Er : Errs K BK BN T) (KK : KindC K KC)
    (SR : Stat K KC "words" fR) (GR : FnOk P w K mg base (L2N.CX P w) 3 fR fdR ["texts"] (spWordsBad K C BK)) (bR : Binds K fdR ["texts"] [])
    (MA : Meth K KC "alternatives" fA) (GA : FnOk P w K mg base CX0 1 fA fdA ["self"] (spAlts KC)) (bA : Binds K fdA ["self"] []) : FnOk P w K mg base CX0 4 f fd ["_law_given_row"] (spWTold K C) := by
  have nd := sc_l_words_told.nd
  refine F.ok sc_l_words_told (fun vs H Q E h => ?_) (fun cdv A outer s H vs Q E hr h => ?_)
  · obtain ⟨x, rfl, _⟩ := h
    rfl
  · obtain ⟨x, rfl, hx, q⟩ := h
    have r1 := hr.mono (show 1 ≤ 3 by decide)
    refine ⟨_, pss_one (ps_try_named (l := [(.ref BK, 1, _)]) rfl rfl nd (nothingOut) (fun W pn xe tk _ => pss_one (ps_ret (pe_tup (pa_cons pe_str (pa_cons (pe_meth0 (pe_stat SR GR hr (by rfl) gK bR .nil (L2N.passAt tk) (pa_cons (pv 0) pa_nil)) KK.cl MA GA r1 bA .nil pass0) pa_nil)))))
      (Clauses.more ⟨rfl, by decide, .inl gB⟩ rfl rfl (fun a oe cls d pn z fz => pss_one (ps_ret (pe_tup (pa_cons pe_str (pa_cons (pe_callB (call_isA (K := K) rfl List.mem_cons_self z fz) (by rfl) N.isi (by decide +kernel) (pa_cons (pv 1) (pa_cons (pe_bltn (v := .ty "ValueError") (by rfl) mv (by decide +kernel) rfl) pa_nil))) pa_nil))))) Clauses.none)), ?_⟩
    refine ⟨_, rfl, x, rfl, hx, fun H1 s1 => ?_⟩
    refine ⟨true, Er.mA, (fun z => by cases z), fun _ p np => ?_⟩
    refine ⟨_, rfl, BK, .ty "ValueError", .type "ValueError", true, rfl, rfl, Er.eA, (fun dx e => by cases e), (fun _ r => r), Er.vA, ?_⟩
    refine ⟨line_small (by show 2 ≤ 16777216; decide), fun t ht => ?_⟩
    exact q t _ (s1.trans (same_new ht)) (s1.free ht) (resD_none upd_same)
theorem ok_l_int {f : Addr} {fd : FuncData} (F : FnP K "_law_is_integer" "_law_is_integer" s_l_is_integer f fd) (N : Nms mg) : FnOk P w K mg base CX0 1 f fd ["_law_thing"] (spIsInt K) := by
  refine F.ok sc_l_is_integer (fun vs H Q E h => ?_) (fun cdv A outer s H vs Q E hr h => ?_)
  · obtain ⟨x, rfl, _⟩ := h
    rfl
  · obtain ⟨x, rfl, h⟩ := h
    refine ⟨_, PSs.nox (pss_one (ps_ret (pe_and (pe_callB call_isi (by rfl) N.isi (by decide +kernel) (pa_cons (pv 0) (pa_cons (pe_bltn (v := .ty "int") (by rfl) N.int (by decide +kernel) rfl) pa_nil)))
      (pe_one (pe_not (pe_callB call_isi (by rfl) N.isi (by decide +kernel) (pa_cons (pv 0) (pa_cons (pe_bltn (v := .ty "bool") (by rfl) N.bool (by decide +kernel) rfl) pa_nil)))))))), ?_⟩
    rcases h with ⟨n, rfl, q⟩ | ⟨⟨t, b1, b2, ty, k1, k2, e⟩, q⟩
    · refine ⟨_, rfl, _, _, _, _, true, rfl, .ty "int", .base (.int _), kit_ty (by decide +kernel), true, rfl, iteT ?_⟩
      exact ⟨_, rfl, _, _, _, _, false, rfl, .ty "bool", .base (.int _), kit_ty (by decide +kernel), false, rfl, q⟩
    · cases b1 with
      | false => exact ⟨_, rfl, _, _, _, _, false, rfl, .ty "int", ty, k1, false, rfl, iteF q⟩
      | true =>
        have e2 : b2 = true := by simpa using e
        subst e2
        exact ⟨_, rfl, _, _, _, _, true, rfl, .ty "int", ty, k1, true, rfl, iteT ⟨_, rfl, _, _, _, _, true, rfl, .ty "bool", ty, k2, true, rfl, q⟩⟩
def dueR (g : Str) (o : Option (Nat × Option Nat)) : Option RunL := o.map fun p => (g, p.1, p.2)
def spDue (K : PySem.W.Frag) : Sp := fun vs H Q _ => ∃ (g : Str) (y z : V) (a b : Bn), vs = [.str g, y, z] ∧ BnAt K H y a ∧ BnAt K H z b ∧ ∀ t H', Same H H' → H t = none → Dp K H' (.ref t) (resD (dueR g (boundsOk a b))) → Q (.ref t) H'
set_option maxHeartbeats 20000000 in
theorem ok_due {f : Addr} {fd : FuncData} (F : FnP K "_law_run_due" "_law_run_due" s_l_run_due f fd) (I : Can P w K mg base CX0 "_law_is_integer" ["_law_thing"] 1 (spIsInt K)) : FnOk P w K mg base CX0 2 f fd ["_law_given", "_law_low", "_law_top"] (spDue K) := by
  obtain ⟨fI, fdI, GI, gI, kI, bI⟩ := I
  refine F.ok sc_l_run_due (fun vs H Q E h => ?_) (fun cdv A outer s H vs Q E hr h => ?_)
  · obtain ⟨g, y, z, a, b, rfl, _⟩ := h
    rfl
  · obtain ⟨g, y, z, a, b, rfl, ha, hb, q⟩ := h
    refine ⟨_, PSs.nox (pss_cons (ps_if (PW.pt (pw_or (pt_not (pt_val (pe_call GI hr (by rfl) gI kI bI .nil pass0 (pa_cons (pv 1) pa_nil)))) (pw_or1 (pt_not (pt_chain op_le op_le pe_int (pv 1) pe_int))))) (pss_one (ps_ret (pe_tup (pa_cons pe_str (pa_cons pe_bl pa_nil))))) pss_nil)
      (pss_cons (ps_if (PW.pt (pw_and (pt_cmpR op_notN (pv 2) pe_non (nomark _)) (pw_and1 (PW.pt (pw_or (pt_not (pt_val (pe_call GI hr (by rfl) gI kI bI .nil pass0 (pa_cons (pv 2) pa_nil)))) (pw_or (pt_not (pt_chain op_le op_le pe_int (pv 2) pe_int)) (pw_or1 (pt_cmpR op_gt (pv 1) (pv 2) (nomark _))))))))) (pss_one (ps_ret (pe_tup (pa_cons pe_str (pa_cons pe_bl pa_nil))))) pss_nil)
      (pss_one (ps_ret (pe_tup (pa_cons pe_str (pa_cons (pe_tup (pa_cons (pe_tup (pa_cons (pe_tup (pa_cons (pv 0) (pa_cons (pv 1) (pa_cons (pv 2) pa_nil)))) pa_nil)) pa_nil)) pa_nil))))))), ?_⟩
    have refuse : ∀ {H1 : Hp}, Same H H1 → boundsOk a b = none → ∀ t, H1 t = none → Q (.ref t) (upd H1 t (.tup [.str "refused", .bl true])) := fun {H1} s1 no t ht => by
      rw [no] at q
      exact q t _ (s1.trans (same_new ht)) (s1.free ht) (resD_none upd_same)
    have z2 : (2 : Nat) ≤ sizeLine := line_small (by decide)
    have accept : ∀ (l : Nat) (m : Option Nat), boundsOk a b = some (l, m) → y = .int (l : Nat) ∧ z = mostV m → ∀ t1, H t1 = none → ∀ t2, upd H t1 (.tup [.str g, y, z]) t2 = none → ∀ t3, upd (upd H t1 (.tup [.str g, y, z])) t2 (.tup [.ref t1]) t3 = none →
        ∀ t4, upd (upd (upd H t1 (.tup [.str g, y, z])) t2 (.tup [.ref t1])) t3 (.tup [.ref t2]) t4 = none → Q (.ref t4) (upd (upd (upd (upd H t1 (.tup [.str g, y, z])) t2 (.tup [.ref t1])) t3 (.tup [.ref t2])) t4 (.tup [.str "kind", .ref t3])) := fun l m e yz t1 n1 t2 n2 t3 n3 t4 n4 => by
      obtain ⟨rfl, rfl⟩ := yz
      rw [e] at q
      have k1 := same_new (o := .tup [.str g, .int (l : Nat), mostV m]) n1
      have k2 := same_new (o := .tup [.ref t1]) n2
      have k3 := same_new (o := .tup [.ref t2]) n3
      have k4 := same_new (o := .tup [.str "kind", .ref t3]) n4
      refine q t4 _ (k1.trans (k2.trans (k3.trans k4))) ((k1.trans (k2.trans k3)).free n4) (pair_dp upd_same (.str _) ?_)
      exact .tup (SqT.of (k4 _ _ upd_same)) (.cons (.tup (SqT.of (k4 _ _ (k3 _ _ upd_same))) (.cons (.tup (SqT.of (k4 _ _ (k3 _ _ (k2 _ _ upd_same)))) (.cons (.str _) (.cons (.int _) (.cons (most_dp _) .nil)))) .nil)) .nil)
    refine ⟨_, rfl, y, rfl, ?_⟩
    cases a with
    | none =>
      cases ha
      exact .inr ⟨noInt_non, _, rfl, iteT ⟨z2, refuse (Same.refl H) (by cases b <;> rfl)⟩⟩
    | other => exact .inr ⟨ha.1, _, rfl, iteT ⟨z2, refuse (Same.refl H) (by cases b <;> rfl)⟩⟩
    | int l =>
      cases ha
      refine .inl ⟨l, rfl, _, rfl, iteF ?_⟩
      refine ⟨_, rfl, _, _, rfl, rfl, _, rfl, ?_⟩
      by_cases hl : 0 ≤ l ∧ l ≤ 40
      · refine (if_pos (decide_eq_true hl.1)).mpr ?_
        refine ⟨_, _, rfl, rfl, _, rfl, ?_⟩
        rw [decide_eq_true hl.2]
        refine iteF ?_
        dsimp only
        cases b with
        | none =>
          cases hb
          refine ⟨_, rfl, rfl, _, rfl, iteF ?_⟩
          refine ⟨_, rfl, _, rfl, _, rfl, line_small (by show 3 ≤ 16777216; decide), fun t1 n1 => ⟨line_small (by show 1 ≤ 16777216; decide), fun t2 n2 => ⟨line_small (by show 1 ≤ 16777216; decide), fun t3 n3 => ⟨z2, fun t4 n4 => ?_⟩⟩⟩⟩
          exact accept l.toNat none (by rw [bo_n, if_pos hl]) ⟨by rw [Int.toNat_of_nonneg hl.1], rfl⟩ t1 n1 t2 n2 t3 n3 t4 n4
        | other =>
          refine ⟨_, rfl, rfl, _, rfl, ?_⟩
          rw [decide_eq_false hb.2]
          refine iteT ?_
          exact ⟨_, rfl, z, rfl, .inr ⟨hb.1, _, rfl, iteT (iteT ⟨z2, refuse (Same.refl H) rfl⟩)⟩⟩
        | int m =>
          cases hb
          refine ⟨_, rfl, rfl, _, rfl, iteT ?_⟩
          refine ⟨_, rfl, _, rfl, .inl ⟨m, rfl, _, rfl, iteF ?_⟩⟩
          refine ⟨_, rfl, _, _, rfl, rfl, _, rfl, ?_⟩
          by_cases h1 : 1 ≤ m
          · refine (if_pos (decide_eq_true h1)).mpr ?_
            refine ⟨_, _, rfl, rfl, _, rfl, ?_⟩
            by_cases h2 : m ≤ 40
            · rw [decide_eq_true h2]
              refine iteF ?_
              refine ⟨_, rfl, _, rfl, _, _, rfl, rfl, _, rfl, ?_⟩
              by_cases h3 : l ≤ m
              · rw [decide_eq_false (show ¬ m < l by omega)]
                refine iteF ?_
                dsimp only
                refine ⟨_, rfl, _, rfl, _, rfl, line_small (by show 3 ≤ 16777216; decide), fun t1 n1 => ⟨line_small (by show 1 ≤ 16777216; decide), fun t2 n2 => ⟨line_small (by show 1 ≤ 16777216; decide), fun t3 n3 => ⟨z2, fun t4 n4 => ?_⟩⟩⟩⟩
                exact accept l.toNat (some m.toNat) (by rw [bo_i, if_pos ⟨hl.1, hl.2, h1, h2, h3⟩]) ⟨by rw [Int.toNat_of_nonneg hl.1], by show V.int m = V.int (m.toNat : Nat); rw [Int.toNat_of_nonneg (by omega)]⟩ t1 n1 t2 n2 t3 n3 t4 n4
              · rw [decide_eq_true (show m < l by omega)]
                exact iteT ⟨z2, refuse (Same.refl H) (by rw [bo_i, if_neg (fun c => h3 c.2.2.2.2)])⟩
            · rw [decide_eq_false h2]
              exact iteT (iteT ⟨z2, refuse (Same.refl H) (by rw [bo_i, if_neg (fun c => h2 c.2.2.2.1)])⟩)
          · refine (if_neg (by simp; omega)).mpr ?_
            exact ⟨_, rfl, iteT (iteT ⟨z2, refuse (Same.refl H) (by rw [bo_i, if_neg (fun c => h1 c.2.2.1)])⟩)⟩
      · have no : boundsOk (.int l) b = none := by
          cases b with
          | none => rw [bo_n, if_neg hl]
          | int m => rw [bo_i, if_neg (fun c => hl ⟨c.1, c.2.1⟩)]
          | other => rfl
        by_cases h1 : 0 ≤ l
        · refine (if_pos (decide_eq_true h1)).mpr ?_
          refine ⟨_, _, rfl, rfl, _, rfl, ?_⟩
          rw [decide_eq_false (fun c => hl ⟨h1, c⟩)]
          exact iteT ⟨z2, refuse (Same.refl H) no⟩
        · refine (if_neg (by simp; omega)).mpr ?_
          exact ⟨_, rfl, iteT ⟨z2, refuse (Same.refl H) no⟩⟩
end
end K06

set_option autoImplicit false
set_option maxErrors 4
namespace K06
open PySem PySem.Spec PyProof.Rows L2 Tl
/-! ### drawn bounds, drawn rows of words -/
theorem cut_take (xs : List V) (k : Nat) : cutV xs none (some (k : Int)) = xs.take k := by
  unfold cutV
  rw [HT.sIx_nat, HT.sIx_none, List.drop_zero, Nat.sub_zero]
  by_cases h : k ≤ xs.length
  · rw [Nat.min_eq_left h]
  · rw [Nat.min_eq_right (by omega), List.take_of_length_le (Nat.le_refl _), List.take_of_length_le (by omega)]
theorem cut_drop (xs : List V) (k : Nat) : cutV xs (some (k : Int)) none = xs.drop k := by
  unfold cutV
  rw [HT.sIx_nat, HT.sIx_none]
  by_cases h : k ≤ xs.length
  · rw [Nat.min_eq_left h]
    exact List.take_of_length_le (by rw [List.length_drop]; omega)
  · rw [Nat.min_eq_right (by omega), List.drop_of_length_le (show xs.length ≤ k by omega), List.drop_of_length_le (Nat.le_refl _), List.take_nil]
/-- a drawn bound -/
inductive Bv (b c : Addr) (H : Hp) : V → Bn → Prop
  | int (n : Int) : Bv b c H (.int n) (.int n)
  | non : Bv b c H .non .none
  | bl (k : Bool) : Bv b c H (.bl k) .other
  | str : Bv b c H (.str "1") .other
  | lst {a : Addr} : H a = some (.lst [.int 1]) → a ≠ b → a ≠ c → Bv b c H (.ref a) .other
theorem Bv.at {K : PySem.W.Frag} {b c : Addr} {H : Hp} {v : V} {n : Bn} (h : Bv b c H v n) : BnAt K H v n := by
  cases h with
  | int n => rfl
  | non => rfl
  | bl k => exact ⟨noInt_bl k, by intro z; cases z⟩
  | str => exact ⟨noInt_str _, by intro z; cases z⟩
  | lst e _ _ => exact ⟨noInt_lst e, by intro z; cases z⟩
theorem Bv.kept {b c : Addr} {H H' : Hp} {v : V} {n : Bn} (h : Bv b c H v n) (k : Kept b c H H') : Bv b c H' v n := by
  cases h with
  | int n => exact .int n
  | non => exact .non
  | bl k => exact .bl k
  | str => exact .str
  | lst e x y => exact .lst (k _ _ e x y) x y
theorem Kept.of {b c : Addr} {H H' : Hp} (s : Same H H') : Kept b c H H' := fun x o e _ _ => s x o e
theorem Bag.same {b c : Addr} {H H' : Hp} (B : Bag H b c) (s : Same H H') : Bag H' b c := by
  obtain ⟨n, m, k, h1⟩ := B.top
  obtain ⟨ns, h2⟩ := B.cells
  exact ⟨⟨n, m, k, s _ _ h1⟩, ⟨ns, s _ _ h2⟩⟩
theorem Bag.neB {b c p : Addr} {H : Hp} (B : Bag H b c) (h : H p = none) : p ≠ b := fun z => by
  obtain ⟨n, m, k, e⟩ := B.top
  rw [z, e] at h
  cases h
theorem Bag.neC {b c p : Addr} {H : Hp} (B : Bag H b c) (h : H p = none) : p ≠ c := fun z => by
  obtain ⟨ns, e⟩ := B.cells
  rw [z, e] at h
  cases h
/-- new things stay new to what stood -/
theorem Kept.newD {b c D : Addr} {H0 H1 : Hp} {o : HO} (k : Kept b c H0 H1) (hD : H1 D = none) : Kept b c H0 (upd H1 D o) := fun x u e nb nc => by
  rw [upd_ne (ne_of_none (k x u e nb nc) hD)]
  exact k x u e nb nc
abbrev wordV (l : List Nat) : V := .str (tx l)
def wordsV (ws : List (List Nat)) : List V := ws.map wordV
def shortF (l : List Nat) : Bool := (l.all fun n => decide (n ∈ alpha)) && decide (1 ≤ l.length ∧ l.length ≤ 20)
theorem pe_joinK {X : Cx} {K : PySem.W.Frag} {o e : Expr} {to te : TE} {apos pos : Pos} (eK : X.K = K) (ho : PE X o to) (he : PE X e te) (hs : starEach [e] X.env = [(false, eval e X.env)] := by rfl) (hbase : attributeBase o "join" X.env (eval o X.env) = eval o X.env := by rfl) (hline : (apos.endLine == pos.line) = true := by rfl) :
    PE X (.Call (.Attribute o "join" apos) [e] [] pos) (tM1 (rJoin K) to te) := by
  subst eK
  exact pe_join ho he hs hbase hline
abbrev b7 (r t : Int) : List V := [.int 0, .int 1, .int 40, .int 41, .int r, .int (t - 2), .int 2]
abbrev b5 (g : Addr) : List V := [.non, .bl true, .bl false, .str "1", .ref g]
section
variable {P : Program} {w : World} {K : PySem.W.Frag} {mg : Str → Option Value} {base : Heap} {C KC : Addr}
def spBound : Sp := fun vs H Q _ => ∃ b c : Addr, vs = [.ref b] ∧ Bag H b c ∧ ∀ v n H', Bag H' b c → Kept b c H H' → Bv b c H' v n → Q v H'
theorem ok_l_bound {f : Addr} {fd : FuncData} (F : FnP K "_law_bound" "_law_bound" s_l_bound f fd) (D : Can P w K mg base CX0 "_law_draw" ["_law_bag_here", "_law_limit"] 1 spDraw) : FnOk P w K mg base CX0 2 f fd ["_law_bag_here"] spBound := by
  obtain ⟨fD, fdD, GD, gD, kD, bD⟩ := D
  have nd := sc_l_bound.nd
  refine F.ok sc_l_bound (fun vs H Q E h => ?_) (fun cdv A outer s H vs Q E hr h => ?_)
  · obtain ⟨b, c, rfl, _⟩ := h
    rfl
  · obtain ⟨b, c, rfl, B, q⟩ := h
    refine ⟨_, PSs.nox (pss_cons (ps_set (i := 1) nd rfl (.inl rfl) (pe_call GD hr (by rfl) gD kD bD .nil pass0 (pa_cons (pv 0) (pa_cons pe_int pa_nil))))
      (pss_cons (ps_if (pt_cmpR op_lt (pv 1) pe_int (nomark _)) (pss_one (ps_ret (pe_ix (r := rIxL K) ix_list (pe_lst (pa_cons pe_int (pa_cons pe_int (pa_cons pe_int (pa_cons pe_int (pa_cons (pe_call GD hr (by rfl) gD kD bD .nil pass0 (pa_cons (pv 0) (pa_cons pe_int pa_nil)))
        (pa_cons (pe_op op_sub (pe_call GD hr (by rfl) gD kD bD .nil pass0 (pa_cons (pv 0) (pa_cons pe_int pa_nil))) pe_int) (pa_cons pe_int pa_nil)))))))) (pv 1) (fun _ _ => rfl)))) pss_nil)
      (pss_one (ps_ret (pe_ix (r := rIxL K) ix_list (pe_lst (pa_cons pe_non (pa_cons pe_bl (pa_cons pe_bl (pa_cons pe_str (pa_cons (pe_lst (pa_cons pe_int pa_nil)) pa_nil)))))) (pe_op op_sub (pv 1) pe_int) (fun _ _ => rfl)))))), ?_⟩
    refine ⟨_, rfl, b, c, 12, rfl, B, by decide, by decide, fun d H1 d0 d1 B1 K1 => ?_⟩
    refine ⟨_, rfl, _, _, rfl, rfl, _, rfl, ite2 (fun e1 => ?_) fun e1 => ?_⟩
    · have d7 : d < 7 := of_decide_eq_true e1
      refine ⟨_, rfl, b, c, 41, rfl, B1, by decide, by decide, fun r H2 r0 r1 B2 K2 => ?_⟩
      refine ⟨_, rfl, b, c, 46, rfl, B2, by decide, by decide, fun t H3 t0 t1 B3 K3 => ⟨_, _, rfl, rfl, ?_⟩⟩
      refine ⟨line_small (by show 7 ≤ 16777216; decide), fun o ho => ?_⟩
      have kk : Kept b c H (upd H3 o (.lst (b7 r t))) := ((K1.trans K2).trans K3).newD ho
      have bb := B3.new (o := .lst (b7 r t)) ho
      obtain ⟨v, at_, i, rfl⟩ : ∃ v, atI (b7 r t) d = some v ∧ ∃ i, v = .int i := by
        have cs : d = 0 ∨ d = 1 ∨ d = 2 ∨ d = 3 ∨ d = 4 ∨ d = 5 ∨ d = 6 := by omega
        rcases cs with rfl | rfl | rfl | rfl | rfl | rfl | rfl <;> exact ⟨_, rfl, _, rfl⟩
      exact ⟨_, rfl, o, _, d, _, rfl, rfl, SqL.of upd_same, at_, q _ _ _ bb kk (.int i)⟩
    · have d7 : ¬ d < 7 := fun z => e1 (decide_eq_true z)
      refine ⟨line_small (by show 1 ≤ 16777216; decide), fun g hg => ?_⟩
      refine ⟨line_small (by show 5 ≤ 16777216; decide), fun o ho => ?_⟩
      have kk : Kept b c H (upd (upd H1 g (.lst [.int 1])) o (.lst (b5 g))) := (K1.newD hg).newD ho
      have bb := (B1.new (o := .lst [.int 1]) hg).new (o := .lst (b5 g)) ho
      have ngo : g ≠ o := ne_of_none upd_same ho
      refine ⟨_, rfl, _, _, rfl, rfl, ?_⟩
      obtain ⟨v, n, at_, hv⟩ : ∃ v n, atI (b5 g) (d - 7) = some v ∧ Bv b c (upd (upd H1 g (.lst [.int 1])) o (.lst (b5 g))) v n := by
        have cs : d = 7 ∨ d = 8 ∨ d = 9 ∨ d = 10 ∨ d = 11 := by omega
        rcases cs with rfl | rfl | rfl | rfl | rfl
        · exact ⟨_, _, rfl, .non⟩
        · exact ⟨_, _, rfl, .bl _⟩
        · exact ⟨_, _, rfl, .bl _⟩
        · exact ⟨_, _, rfl, .str⟩
        · exact ⟨_, _, rfl, .lst (by rw [upd_ne ngo, upd_same]) (B1.neB hg) (B1.neC hg)⟩
      exact ⟨o, _, d - 7, _, rfl, rfl, SqL.of upd_same, at_, q _ _ _ bb kk hv⟩
theorem txF {H : Hp} {l : List Nat} (h : l.length ≤ 2000) : Short K C H (wordV l) (shortF l) := .txt h
theorem txNo {H : Hp} {l : List Nat} (h : l.length ≤ 2000) (e : shortF l = false) : Short K C H (wordV l) false := by
  have z := txF (K := K) (C := C) (H := H) h
  rw [e] at z
  exact z
theorem ten_no : ¬ (10 ∈ alpha) := by decide +kernel
def spBadWords (K : PySem.W.Frag) (C : Addr) : Sp := fun vs H Q _ => ∃ (b c p : Addr) (ls : List Nat), vs = [.ref b, .ref p] ∧ Bag H b c ∧ H p = some (.lst (lettersV ls)) ∧ p ≠ b ∧ p ≠ c ∧ ls.length = 5 ∧ ∀ r H', Bag H' b c → Kept b c H H' → r ≠ b → r ≠ c → WBad K C H' (.ref r) → Q (.ref r) H'
set_option maxHeartbeats 20000000 in
theorem ok_bad_words {f : Addr} {fd : FuncData} (F : FnP K "_law_bad_words" "_law_bad_words" s_l_bad_words f fd) (N : Nms mg) (Ap : Apart K C KC) (D : Can P w K mg base CX0 "_law_draw" ["_law_bag_here", "_law_limit"] 1 spDraw) : FnOk P w K mg base CX0 2 f fd ["_law_bag_here", "_law_letters_here"] (spBadWords K C) := by
  obtain ⟨fD, fdD, GD, gD, kD, bD⟩ := D
  have nd := sc_l_bad_words.nd
  refine F.ok sc_l_bad_words (fun vs H Q E h => ?_) (fun cdv A outer s H vs Q E hr h => ?_)
  · obtain ⟨b, c, p, ls, rfl, _⟩ := h
    rfl
  · obtain ⟨b, c, p, ls, rfl, B, hp, npb, npc, len, q⟩ := h
    refine ⟨_, PSs.nox (pss_cons (ps_setLc (i := 3) (own := [("_law_k", 2)]) (g := gName 2) (tt := tYes) rfl nd rfl rfl rfl (pi_range1 rfl N.range (pa_cons (pe_op op_add pe_int (pe_call GD hr (by rfl) gD kD bD .nil pass0 (pa_cons (pv 0) (pa_cons pe_int pa_nil)))) pa_nil))
        (blkOk_by (N := ["_law_bag_here", "_law_letters_here", "_law_k", "_law_words", "_law_at", "_law_odd"]) (sc := defScope s_l_bad_words) (by decide +kernel)) (fun _ _ _ _ _ => pg_name (i := 2) nd rfl (Or.inl rfl)) (fun _ _ _ _ _ => pts_nil)
        (fun _ _ _ _ _ => pe_joinK (K := K) rfl pe_str (pe_slice (r := rSlL K) sl_list (pv 1) po_none (po_some (pe_op op_add pe_int (pe_call GD hr (by rfl) gD kD bD .nil pass0 (pa_cons (pv 0) (pa_cons pe_int pa_nil))))))))
      (pss_cons (ps_set (i := 4) nd rfl (by first | exact .inl rfl | exact .inr rfl) (pe_call GD hr (by rfl) gD kD bD .nil pass0 (pa_cons (pv 0) (pa_cons (pe_callB call_len_seq (by rfl) N.len PySem.boot_len (pa_cons (pv 3) pa_nil)) pa_nil))))
      (pss_cons (ps_set (i := 5) nd rfl (by first | exact .inl rfl | exact .inr rfl) (pe_ix (r := rIxL K) ix_list (pe_lst (pa_cons pe_str (pa_cons (pe_op op_mulTx (pe_ix (r := rIxL K) ix_list (pv 1) pe_int (fun _ _ => rfl)) pe_int) (pa_cons (pe_op op_add_str (pe_ix (r := rIxL K) ix_list (pv 1) pe_int (fun _ _ => rfl)) pe_str)
        (pa_cons pe_non (pa_cons pe_int (pa_cons (pe_lst (pa_cons (pe_ix (r := rIxL K) ix_list (pv 1) pe_int (fun _ _ => rfl)) pa_nil)) (pa_cons pe_bl pa_nil)))))))) (pe_call GD hr (by rfl) gD kD bD .nil pass0 (pa_cons (pv 0) (pa_cons pe_int pa_nil))) (fun _ _ => rfl)))
      (pss_one (ps_ret (pe_op op_cat (pe_op op_cat (pe_slice sl_list (pv 3) po_none (po_some (pv 4))) (pe_lst (pa_cons (pv 5) pa_nil))) (pe_slice sl_list (pv 3) (po_some (pe_op op_add (pv 4) pe_int)) po_none))))))), ?_⟩
    refine ⟨_, rfl, b, c, 19, rfl, B, by decide, by decide, fun m H1 m0 m19 B1 K1 => ⟨_, _, rfl, rfl, ?_⟩⟩
    refine ⟨1 + m, rfl, by omega, by omega, fun D hD => ?_⟩
    have nDb := B1.neB hD
    have nDc := B1.neC hD
    refine lc_range (lo := 0) (n := (1 + m).toNat) (fun i H2 => ∃ ws : List (List Nat), H2 D = some (.lst (wordsV ws)) ∧ ws.length = i ∧ (∀ l ∈ ws, l.length ≤ 2000) ∧ Bag H2 b c ∧ Kept b c H H2) ?_ ?_ ?_
    · exact ⟨[], upd_same, rfl, by simp, B1.new hD, K1.newD hD⟩
    · rintro i H2 hi ⟨ws, e1, e2, e3, B2, K2⟩
      refine ⟨rfl, yes_keep ?_⟩
      have hp2 := K2 _ _ hp npb npc
      refine ⟨⟨_, rfl⟩, _, rfl, _, rfl, b, c, 5, rfl, B2, by decide, by decide, fun d H3 d0 d1 B3 K3 => ⟨_, _, rfl, rfl, ?_⟩⟩
      obtain ⟨d, rfl⟩ := Int.eq_ofNat_of_zero_le d0
      refine ⟨1 + (d : Int), rfl, p, _, rfl, SqL.of (K3 _ _ hp2 npb npc), fun g hg => ?_⟩
      have ec : cutV (lettersV ls) none (some (1 + (d : Int))) = lettersV (ls.take (1 + d)) := by
        have e : (1 + (d : Int)) = ((1 + d : Nat) : Int) := by omega
        rw [e, cut_take]
        unfold lettersV
        rw [List.map_take]
      rw [ec]
      have lt : (ls.take (1 + d)).length ≤ 5 := by rw [List.length_take]; omega
      refine join_rd (l := ls.take (1 + d)) upd_same (by omega) ?_
      have eD : upd H3 g (.lst (lettersV (ls.take (1 + d)))) D = some (.lst (wordsV ws)) := by
        have z := K3 _ _ e1 nDb nDc
        rw [upd_ne (ne_of_none z hg)]
        exact z
      refine ⟨_, eD, ?_, ws ++ [ls.take (1 + d)], ?_, ?_, ?_, ?_, ?_⟩
      · unfold wordsV
        rw [List.length_map]
        exact small1000 (by omega)
      · rw [upd_same]
        unfold wordsV
        rw [List.map_append]
        rfl
      · rw [List.length_append, e2]
        rfl
      · intro l hl
        rcases List.mem_append.mp hl with z | z
        · exact e3 l z
        · rw [List.mem_singleton.mp z]
          omega
      · have B4 := B3.new (o := .lst (lettersV (ls.take (1 + d)))) hg
        obtain ⟨n5, m5, k5, hb5⟩ := B4.top
        obtain ⟨ns5, hc5⟩ := B4.cells
        exact ⟨⟨n5, m5, k5, by rw [upd_ne (Ne.symm nDb)]; exact hb5⟩, ⟨ns5, by rw [upd_ne (Ne.symm nDc)]; exact hc5⟩⟩
      · intro x o e nb nc
        have z := ((K2.trans K3).newD (o := .lst (lettersV (ls.take (1 + d)))) hg) x o e nb nc
        rw [upd_ne (ne_of_none (K1 x o e nb nc) hD)]
        exact z
    · rintro H2 ⟨ws, e1, e2, e3, B2, K2⟩
      refine name_go ?_
      dsimp only
      refine seq_go (asg_go ?_)
      have lw : (wordsV ws).length = ws.length := List.length_map _
      have ws1 : 1 ≤ ws.length := by omega
      have ws2 : ws.length ≤ 19 := by omega
      refine ⟨_, rfl, _, rfl, D, _, rfl, .inl (SqL.of e1), ?_⟩
      rw [lw]
      refine ⟨b, c, _, rfl, B2, by omega, ?_, fun at_ H3 a0 a1 B3 K3 => ?_⟩
      · show ws.length < 2 ^ 200
        exact Nat.lt_of_le_of_lt ws2 (by decide)
      obtain ⟨at_, rfl⟩ := Int.eq_ofNat_of_zero_le a0
      have at1 : at_ < ws.length := by omega
      refine name_go ?_
      dsimp only
      refine seq_go (asg_go ?_)
      have e4 := K3 _ _ e1 nDb nDc
      have K03 := K2.trans K3
      have hp3 := K03 _ _ hp npb npc
      obtain ⟨l0, hl0, g0⟩ : ∃ l0, atI (lettersV ls) 0 = some (.str (tx [l0])) ∧ True := by
        cases ls with
        | nil => cases len
        | cons x r => exact ⟨x, atI_nat (j := 0) rfl, trivial⟩
      refine ⟨_, rfl, p, _, 0, _, rfl, rfl, SqL.of hp3, hl0, [l0], 21, rfl, rfl, by decide, (by show 1 * 21 ≤ 16777216; decide), ?_⟩
      refine ⟨_, rfl, p, _, 0, _, rfl, rfl, SqL.of hp3, hl0, tx [l0], tx [10], rfl, rfl, line_small (by show 2 ≤ 16777216; decide), ?_⟩
      rw [tx_app]
      refine ⟨_, rfl, p, _, 0, _, rfl, rfl, SqL.of hp3, hl0, line_small (by show 1 ≤ 16777216; decide), fun g hg => ?_⟩
      refine ⟨line_small (by show 7 ≤ 16777216; decide), fun o ho => ?_⟩
      generalize hO : [V.str "", V.str (tx (List.replicate 21 [l0]).flatten), V.str (tx ([l0] ++ [10])), V.non, V.int 3, V.ref g, V.bl true] = odds at *
      have k1 := same_new (o := .lst [.str (tx [l0])]) hg
      have k2 := same_new (o := .lst odds) ho
      have B4 := B3.same (k1.trans k2)
      have K4 := K03.trans (Kept.of (k1.trans k2))
      refine ⟨_, rfl, b, c, 7, rfl, B4, by decide, by decide, fun d H5 d0 d7 B5 K5 => ?_⟩
      have gb := B3.neB hg
      have gc := B3.neC hg
      have ob := (B3.same k1).neB ho
      have oc := (B3.same k1).neC ho
      have eo := K5 _ _ upd_same ob oc
      have eg : H5 g = some (.lst [.str (tx [l0])]) := K5 _ _ (k2 _ _ upd_same) gb gc
      obtain ⟨v, at2, sv⟩ : ∃ v, atI odds d = some v ∧ Short K C H5 v false := by
        rw [← hO]
        have cs : d = 0 ∨ d = 1 ∨ d = 2 ∨ d = 3 ∨ d = 4 ∨ d = 5 ∨ d = 6 := by omega
        rcases cs with rfl | rfl | rfl | rfl | rfl | rfl | rfl
        · exact ⟨_, rfl, txNo (l := []) (by decide) (by decide)⟩
        · exact ⟨_, rfl, txNo (l := (List.replicate 21 [l0]).flatten) (by show 21 ≤ 2000; decide) (by unfold shortF; rw [decide_eq_false (by show ¬ (1 ≤ 21 ∧ 21 ≤ 20); decide), Bool.and_false])⟩
        · exact ⟨_, rfl, txNo (l := [l0] ++ [10]) (by show 2 ≤ 2000; decide) (by unfold shortF; simp [ten_no])⟩
        · exact ⟨_, rfl, .off (.base .non) (Ap.no _ (by decide)) (kit_ty (by decide +kernel))⟩
        · exact ⟨_, rfl, .off (.base (.int _)) (Ap.no _ (by decide)) (kit_ty (by decide +kernel))⟩
        · exact ⟨_, rfl, .off (.base (.lst eg)) (Ap.no _ (by decide)) (kit_ty (by decide +kernel))⟩
        · exact ⟨_, rfl, .off (.base (.bl _)) (Ap.no _ (by decide)) (kit_ty (by decide +kernel))⟩
      refine ⟨o, _, d, v, rfl, rfl, SqL.of eo, at2, ?_⟩
      refine name_go ?_
      dsimp only
      have e5 := K5 _ _ ((k1.trans k2) _ _ e4) nDb nDc
      refine ⟨_, rfl, _, rfl, (at_ : Int), rfl, D, _, rfl, SqL.of e5, fun s1 n1 => ?_⟩
      rw [cut_take]
      have j1 := same_new (o := .lst ((wordsV ws).take at_)) n1
      refine ⟨_, rfl, line_small (by show 1 ≤ 16777216; decide), fun s2 n2 => ?_⟩
      have j2 := same_new (o := .lst [v]) n2
      have lt : ((wordsV ws).take at_).length ≤ 19 := by rw [List.length_take]; omega
      refine ⟨s1, s2, _, [v], rfl, rfl, j2 _ _ upd_same, upd_same, line_small (by show ((wordsV ws).take at_).length + 1 ≤ 16777216; omega), fun s3 n3 => ?_⟩
      have j3 := same_new (o := .lst ((wordsV ws).take at_ ++ [v])) n3
      refine ⟨_, rfl, _, rfl, _, _, rfl, rfl, (at_ : Int) + 1, rfl, D, _, rfl, SqL.of (j3 _ _ (j2 _ _ (j1 _ _ e5))), fun s4 n4 => ?_⟩
      have ea : ((at_ : Int) + 1) = ((at_ + 1 : Nat) : Int) := by omega
      rw [ea, cut_drop]
      have j4 := same_new (o := .lst ((wordsV ws).drop (at_ + 1))) n4
      have ld : ((wordsV ws).drop (at_ + 1)).length ≤ 19 := by rw [List.length_drop]; omega
      refine ⟨s3, s4, _, _, rfl, rfl, j4 _ _ upd_same, upd_same, line_small (by rw [List.length_append]; show ((wordsV ws).take at_).length + 1 + ((wordsV ws).drop (at_ + 1)).length ≤ 16777216; omega), fun s5 n5 => ?_⟩
      have j5 := same_new (o := .lst ((wordsV ws).take at_ ++ [v] ++ (wordsV ws).drop (at_ + 1))) n5
      have jj := j1.trans (j2.trans (j3.trans (j4.trans j5)))
      have B6 := B5.same jj
      have K6 := (K4.trans K5).trans (Kept.of jj)
      have n50 := (j1.trans (j2.trans (j3.trans j4))).free n5
      have lt2 : ((wordsV ws).take at_).length = at_ := by rw [List.length_take]; omega
      have lxs : ((wordsV ws).take at_ ++ [v] ++ (wordsV ws).drop (at_ + 1)).length = ws.length := by
        rw [List.length_append, List.length_append, lt2, List.length_drop, lw, List.length_singleton]
        omega
      have ltf : ((ws.map shortF).take at_).length = at_ := by rw [List.length_take, List.length_map]; omega
      refine q s5 _ B6 K6 (B5.neB n50) (B5.neC n50) (.bad (bs := (ws.map shortF).take at_ ++ [false] ++ (ws.map shortF).drop (at_ + 1)) upd_same (by omega) (by omega) ?_ ?_ ?_)
      · rw [lxs, List.length_append, List.length_append, ltf, List.length_drop, List.length_map, List.length_singleton]
        omega
      · intro i x f hx hf
        rcases Nat.lt_trichotomy i at_ with lt | rfl | gt
        · rw [List.append_assoc, List.getElem?_append_left (by rw [lt2]; exact lt), List.getElem?_take_of_lt lt] at hx
          rw [List.append_assoc, List.getElem?_append_left (by rw [ltf]; exact lt), List.getElem?_take_of_lt lt] at hf
          unfold wordsV at hx
          rw [List.getElem?_map] at hx hf
          cases hw : ws[i]? with
          | none =>
            rw [hw] at hx
            cases hx
          | some l =>
            rw [hw] at hx hf
            cases hx
            cases hf
            exact txF (e3 l (List.mem_of_getElem? hw))
        · rw [List.append_assoc, List.getElem?_append_right (by rw [lt2]; exact Nat.le_refl _), lt2, Nat.sub_self] at hx
          rw [List.append_assoc, List.getElem?_append_right (by rw [ltf]; exact Nat.le_refl _), ltf, Nat.sub_self] at hf
          cases hx
          cases hf
          exact sv.same jj
        · rw [List.getElem?_append_right (by rw [List.length_append, lt2, List.length_singleton]; omega), List.length_append, lt2, List.length_singleton, List.getElem?_drop] at hx
          rw [List.getElem?_append_right (by rw [List.length_append, ltf, List.length_singleton]; omega), List.length_append, ltf, List.length_singleton, List.getElem?_drop] at hf
          have ei : at_ + 1 + (i - (at_ + 1)) = i := by omega
          rw [ei] at hx hf
          unfold wordsV at hx
          rw [List.getElem?_map] at hx hf
          cases hw : ws[i]? with
          | none =>
            rw [hw] at hx
            cases hx
          | some l =>
            rw [hw] at hx hf
            cases hx
            cases hf
            exact txF (e3 l (List.mem_of_getElem? hw))
      · rw [List.all_append, List.all_append]
        simp
end
end K06

set_option autoImplicit false
set_option maxErrors 4
/-! C.m(e, .., k = v), m a static method with defaults. -/
namespace Tl
open PySem PySem.Spec PyProof.Rows L2
section
variable {X : Cx} {CX : CXT} {k n : Nat} {f C : Addr} {fd : FuncData} {ps ks : List Str} {sp : Sp} {E : L2.St → XK} {x m : Str} {p1 p2 pos : Pos} {e : Expr} {es : List Expr} {kws : List Keyword} {t tk : TA} {g : List Value → List Value → List Value} {gV : List V → List V → List V}
def tStatK (n m : Nat) (sp : Sp) (gV : List V → List V → List V) (E : L2.St → XK) (t tk : TA) : TE := fun σ H Q => t σ H fun vs H1 => tk σ H1 fun zs H2 => vs.length = n ∧ zs.length = m ∧ sp (gV vs zs) H2 Q (E σ)
theorem pe_statK {pl : Sem Bool} (S : Stat X.K C m f) (F : FnOk X.prog X.w X.K X.mg X.base CX k f fd ps sp) (hr : Room k X.A) (hg : Gl X x) (hm : X.mg x = some (.ref C)) (hb : KBn X.K fd ps n ks g gV) (out : ∀ σ, PassesAt CX X σ (E σ)) (ha : PA X (e :: es) t) (hkw : PK X kws tk)
    (hall : (backToKw pos (keywordEach kws X.env)).all (·.1.isSome) = true := by rfl) (hks : (backToKw pos (keywordEach kws X.env)).filterMap (·.1) = ks := by rfl)
    (hdb : (x == ("__debug__" : Str)) = false := by decide) (hst : starEach (e :: es) X.env = (false, eval e X.env) :: starEach es X.env := by rfl) (hpl : ((backTo pos (starEach (e :: es) X.env)).any (·.1) || (backToKw pos (keywordEach kws X.env)).any (·.1.isNone)) = false := by rfl)
    (ht : eval (.Call (.Attribute (.Name x p1) m p2) (e :: es) kws pos) X.env = (do
      let ov ← eval (.Name x p1) X.env
      standAt p2.atName
      let (f, first) ← holding [ov] (getMethod ov m pl)
      callWith pos f first (backTo pos (starEach (e :: es) X.env)) (backToKw pos (keywordEach kws X.env))) := by rfl) :
    PE X (.Call (.Attribute (.Name x p1) m p2) (e :: es) kws pos) (tStatK n ks.length sp gV E t tk) := by
  refine ⟨fun pins s σ H Q I h => PySem.W.methodCall_KW (pl := pl) (ld_glob I hg hm ?_ hdb) ht⟩
  obtain ⟨mm, fr⟩ := I.fr
  obtain ⟨p, rest, found, rc⟩ := S.fd
  refine PySem.W.method_of_cls fr I.ok.mod.kin S.ga (PySem.W.cls_sm fr I.ok.mod.kin S.ty S.rd found rc rfl ?_)
  refine PySem.W.callWith_KW (first := []) (h₀ := X.base) I.ok.mod.kin S.kp hall (thn (ha.run pos pins _ σ H _ (I.tok _) h) fun us s1 ⟨vs, H1, I1, r, q⟩ => ?_) hpl hst
  refine thn (hkw.run pos pins s1 σ H1 _ I1 q) fun ws s2 ⟨zs, H2, I2, rz, l1, l2, z⟩ => ⟨I2.kIn, ?_⟩
  rw [hks]
  have both := hb.rel r rz
  refine wpAny_call (codeAny_mono (F.run X.A X.stack s2 H2 ⟨us, ks.zip ws⟩ (g us ws) (gV vs zs) Q (E σ) hr I2.env0 (hb.to s2 us ws I2.kIn (r.length.symm.trans l1) (rz.length.symm.trans l2)) both z) fun res s3 y => ?_)
  cases res with
  | error er => exact out σ pins H2 s2 er s3 I2 y
  | ok fl =>
    cases fl with
    | ret u => exact I2.after y
    | next => exact y.elim
    | brk => exact y.elim
    | cont => exact y.elim
end
section
variable {K : PySem.W.Frag} {x qual : Str} {params : Arguments} {body : List Stmt} {scope : Scope} {dvs : List V} {f : Addr} {fd : FuncData} {ps : List Str}
/-- n values are written, then j of the defaults, then the keywords -/
theorem kbn_of (F : FunD K x qual params body scope dvs [] f fd) (n j : Nat) (ks : List Str) (hd : dvs ≠ [])
    (h : ∀ (T : Addr) (kV doc pm : Value) (an : Option Addr) (cdv ct : Value) (us its ws : List Value), us.length = n → its.length = dvs.length → ws.length = ks.length →
      ∃ k, bindArgs (PySem.W.fnOf x qual params body scope (.ref T) kV doc pm an cdv ct) ⟨us, ks.zip ws⟩ = seqItems? (.ref T) >>= k ∧ k (some its.toArray) = pure (ps.zip (us ++ (its.take j ++ ws)))) :
    ∃ its : List Value, KBn K fd ps n ks (fun us ws => us ++ (its.take j ++ ws)) (fun vs zs => vs ++ (dvs.take j ++ zs)) := by
  obtain ⟨oc, od, dV, kV, doc, pm, an, cdv, ct, osl, rfl, lk, hcd, hD, hK⟩ := F.ex
  rcases hD with ⟨e, _⟩ | ⟨_, T, o, its, m, rfl, lT, oT, rT⟩
  · exact absurd e hd
  · have cut : ∀ (i : Nat) {vs : List V} {us : List Value}, Vals vs us → Vals (vs.take i) (us.take i) := by
      intro i
      induction i with
      | zero => exact fun _ => .nil
      | succ i ih =>
        intro vs us r
        cases r with
        | nil => exact .nil
        | cons a b => exact .cons a (ih b)
    refine ⟨its, ⟨fun s us ws X l1 l2 => ?_, fun r1 r2 => r1.append ((cut j rT).append r2)⟩⟩
    obtain ⟨k, e1, e2⟩ := h T kV doc pm an cdv ct us its ws l1 rT.length.symm l2
    refine BindsTo.of_looks fun M => ?_
    rw [e1]
    exact looks_items X lT oT (.of_pure e2)
end
end Tl

set_option autoImplicit false
set_option maxErrors 4
/-! Data that stand stay data. -/
namespace Tl
open PySem PySem.Spec PyProof.Rows L2
variable {K : PySem.W.Frag} {H H' : Hp}
theorem rd_same {a : Addr} {u : HO} (h : Rd H a u) (s : Same H H') : Rd H' a u := h.imp (fun e => s _ _ e) fun ⟨o, e⟩ => ⟨o, s _ _ e⟩
theorem sqL_same {a : Addr} {xs : List V} (h : SqL K H a xs) (s : Same H H') : SqL K H' a xs := h.imp (fun r => rd_same r s) id
theorem sqT_same {a : Addr} {xs : List V} (h : SqT K H a xs) (s : Same H H') : SqT K H' a xs := h.imp (fun r => rd_same r s) id
mutual
theorem dp_same (s : Same H H') : ∀ (d : PyData) (v : V), Dp K H v d → Dp K H' v d
  | .none, _, h => by
    cases h
    exact .non
  | .bool b, _, h => by
    cases h
    exact .bl b
  | .int i, _, h => by
    cases h
    exact .int i
  | .str z, _, h => by
    cases h
    exact .str z
  | .list ds, _, h => by
    cases h with
    | lst e all => exact .lst (sqL_same e s) (dp_sameA s ds _ all)
  | .tuple ds, _, h => by
    cases h with
    | tup e all => exact .tup (sqT_same e s) (dp_sameA s ds _ all)
  | .dict _, _, h => by cases h
theorem dp_sameA (s : Same H H') : ∀ (ds : List PyData) (vs : List V), DpAll K H vs ds → DpAll K H' vs ds
  | [], _, h => by
    cases h
    exact .nil
  | d :: ds, _, h => by
    cases h with
    | cons a b => exact .cons (dp_same s d _ a) (dp_sameA s ds _ b)
end
end Tl

set_option autoImplicit false
set_option maxErrors 4
namespace K06
open PySem PySem.Spec PyProof.Rows L2 Tl
/-! ### an ascending row of signs is told by its members -/
theorem sorted_sg : ∀ (ns : List Nat), sortedS (ns.map sg) = true → ns.Pairwise (· ≤ ·) := by
  have step : ∀ (ns : List Nat) (m : Nat), risingS (sg m) (ns.map sg) = true → (m :: ns).Pairwise (· ≤ ·) := by
    intro ns
    induction ns with
    | nil => intro m _; exact List.pairwise_singleton _ _
    | cons n ns ih =>
      intro m h
      have h2 : (!ltCps (sg n).cps.toList (sg m).cps.toList && risingS (sg n) (ns.map sg)) = true := h
      obtain ⟨h3, h4⟩ := Bool.and_eq_true_iff.mp h2
      have p := ih n h4
      have h5 : m ≤ n := by
        refine Nat.le_of_not_lt fun z => ?_
        have e : ltCps (sg n).cps.toList (sg m).cps.toList = true := by
          show ltCps [n] [m] = true
          simp [ltCps, z]
        rw [e] at h3
        cases h3
      refine List.pairwise_cons.mpr ⟨fun k hk => ?_, p⟩
      rcases List.mem_cons.mp hk with e | e
      · rw [e]
        exact h5
      · exact Nat.le_trans h5 ((List.pairwise_cons.mp p).1 k e)
  intro ns h
  cases ns with
  | nil => exact List.Pairwise.nil
  | cons n ns => exact step ns n h
theorem le_uniq : ∀ (l k : List Nat), l.Pairwise (· < ·) → k.Pairwise (· < ·) → (∀ n, n ∈ l ↔ n ∈ k) → l = k
  | [], [], _, _, _ => rfl
  | [], y :: k, _, _, h => absurd ((h y).2 List.mem_cons_self) (by simp)
  | x :: l, [], _, _, h => absurd ((h x).1 List.mem_cons_self) (by simp)
  | x :: l, y :: k, hl, hk, h => by
    obtain ⟨l1, l2⟩ := List.pairwise_cons.mp hl
    obtain ⟨k1, k2⟩ := List.pairwise_cons.mp hk
    have e : x = y := by
      have a := (h x).1 List.mem_cons_self
      have b := (h y).2 List.mem_cons_self
      rcases List.mem_cons.mp a with e | e
      · exact e
      · rcases List.mem_cons.mp b with f | f
        · exact f.symm
        · have := k1 x e
          have := l1 y f
          omega
    subst e
    have t : l = k := le_uniq l k l2 k2 fun n => by
      constructor
      · intro z
        rcases List.mem_cons.mp ((h n).1 (List.mem_cons_of_mem _ z)) with e | e
        · have := l1 n z
          omega
        · exact e
      · intro z
        rcases List.mem_cons.mp ((h n).2 (List.mem_cons_of_mem _ z)) with e | e
        · have := k1 n z
          omega
        · exact e
    rw [t]
theorem alpha_lt : alpha.Pairwise (· < ·) := by decide +kernel
theorem norm_lt (l : List Nat) : (norm l).Pairwise (· < ·) := List.Pairwise.filter _ alpha_lt
theorem once_eq {l : List Nat} (hl : ∀ n ∈ l, n ∈ alpha) {ys : List Str} (h1 : sortedS ys = true) (h2 : ys.Nodup) (h3 : ∀ z, z ∈ ys ↔ z ∈ l.map sg) : ys = (norm l).map sg := by
  have e : ∃ ns : List Nat, ys = ns.map sg := by
    have : ∀ zs : List Str, (∀ z ∈ zs, z ∈ l.map sg) → ∃ ns : List Nat, zs = ns.map sg := by
      intro zs
      induction zs with
      | nil => intro _; exact ⟨[], rfl⟩
      | cons z zs ih =>
        intro h
        obtain ⟨ns, e⟩ := ih fun y hy => h y (List.mem_cons_of_mem _ hy)
        obtain ⟨n, _, en⟩ := List.mem_map.mp (h z List.mem_cons_self)
        exact ⟨n :: ns, by rw [e, ← en]; rfl⟩
    exact this ys fun z hz => (h3 z).1 hz
  obtain ⟨ns, rfl⟩ := e
  have nd : ns.Nodup := List.Pairwise.of_map sg (fun _ _ hne e => hne (congrArg sg e)) h2
  have hle := sorted_sg ns h1
  have hlt : ns.Pairwise (· < ·) := by
    refine List.Pairwise.imp₂ (fun a b x y => Nat.lt_of_le_of_ne x y) hle nd
  have e : ns = norm l := le_uniq ns (norm l) hlt (norm_lt l) fun n => by
    rw [mem_norm hl]
    constructor
    · intro z
      obtain ⟨m, hm, e⟩ := List.mem_map.mp ((h3 (sg n)).1 (List.mem_map.mpr ⟨n, z, rfl⟩))
      rw [← sg_inj e]
      exact hm
    · intro z
      obtain ⟨m, hm, e⟩ := List.mem_map.mp ((h3 (sg n)).2 (List.mem_map.mpr ⟨n, z, rfl⟩))
      rw [← sg_inj e]
      exact hm
  rw [e]

theorem alpha_small : ∀ n ∈ alpha, n < 0x110000 := by decide +kernel
theorem tx_ok {l : List Nat} (h : ∀ n ∈ l, n ∈ alpha) : PyData.strOk (tx l) = true := by
  unfold PyData.strOk tx
  simp only [List.all_toArray, List.all_eq_true, decide_eq_true_eq]
  exact fun n hn => alpha_small n (h n hn)
theorem rowsD_ok {s : Str} (h : PyData.strOk s = true) (l : Nat) (m : Option Nat) : SeqAt.shaped (rowsD [[(s, l, m)]]) = true := by
  unfold rowsD rowD runD SeqAt.shaped
  cases m <;> simp [PyData.canLay0, PyData.canLayAll0, h, PyData.depth, PyData.depthAll]
theorem resN_ok : SeqAt.shaped (resD none) = true := by decide +kernel
theorem resD_ok {s : Str} (h : PyData.strOk s = true) (o : Option (Nat × Option Nat)) : SeqAt.shaped (resD (dueR s o)) = true := by
  cases o with
  | none => exact resN_ok
  | some p =>
    obtain ⟨l, m⟩ := p
    have e : resD (dueR s (some (l, m))) = .tuple [.str "kind", rowsD [[(s, l, m)]]] := rfl
    rw [e]
    unfold rowsD rowD runD SeqAt.shaped
    have hk : PyData.strOk "kind" = true := by decide +kernel
    cases m <;> simp [PyData.canLay0, PyData.canLayAll0, h, hk, PyData.depth, PyData.depthAll]
theorem ne_no {K : PySem.W.Frag} {H : Hp} {x y : V} {D : PyData} {Q : VK} (h1 : Dp K H x D) (h2 : Dp K H y D) (sh : SeqAt.shaped D = true) (q : Q (.bl false) H) : rNeD K x y H Q := ⟨D, D, h1, h2, sh, sh, by rw [eqv_self sh]; exact q⟩
theorem eq_yes {K : PySem.W.Frag} {H : Hp} {x y : V} {D : PyData} {Q : VK} (h1 : Dp K H x D) (h2 : Dp K H y D) (sh : SeqAt.shaped D = true) (q : Q (.bl true) H) : rEqD K x y H Q := ⟨D, D, h1, h2, sh, sh, by rw [eqv_self sh]; exact q⟩
theorem runOk_due {S : List Nat} (h : S ≠ []) (o : Option (Nat × Option Nat)) : runOk (some S) o = dueR (tx S) o := by
  cases S with
  | nil => exact absurd rfl h
  | cons n S =>
    cases o with
    | none => rfl
    | some p => rfl
theorem kept_ins {b c : Addr} {H H' : Hp} (B : Bag H b c) (k : Kept b c H H') : ∀ a C dx fs, H a = some (.ins C dx fs) → H' a = some (.ins C dx fs) := fun a C dx fs e => by
  obtain ⟨n, m, j, h1⟩ := B.top
  obtain ⟨ns, h2⟩ := B.cells
  exact k a _ e (fun z => by rw [z, h1] at e; cases e) (fun z => by rw [z, h2] at e; cases e)
theorem kept_tup {b c : Addr} {H H' : Hp} (B : Bag H b c) (k : Kept b c H H') : ∀ a xs, H a = some (.tup xs) → H' a = some (.tup xs) := fun a xs e => by
  obtain ⟨n, m, j, h1⟩ := B.top
  obtain ⟨ns, h2⟩ := B.cells
  exact k a _ e (fun z => by rw [z, h1] at e; cases e) (fun z => by rw [z, h2] at e; cases e)
/-- what stands through the whole law -/
structure Std (KC b c p k : Addr) (ls S : List Nat) (H : Hp) : Prop where
  bag : Bag H b c
  row : H p = some (.lst (lettersV ls))
  pb : p ≠ b
  pc : p ≠ c
  kind : KindL KC H k [[(tx S, 1, some 1)]]
theorem Std.kept {KC b c p k : Addr} {ls S : List Nat} {H H' : Hp} (h : Std KC b c p k ls S H) (B : Bag H' b c) (kk : Kept b c H H') : Std KC b c p k ls S H' := ⟨B, kk _ _ h.row h.pb h.pc, h.pb, h.pc, h.kind.stay (kept_ins h.bag kk) (kept_tup h.bag kk)⟩
theorem Std.same {KC b c p k : Addr} {ls S : List Nat} {H H' : Hp} (h : Std KC b c p k ls S H) (s : Same H H') : Std KC b c p k ls S H' := h.kept (h.bag.same s) (Kept.of s)
/-- drawn bounds in a list -/
structure Bs (b c a : Addr) (vs : List V) (H : Hp) : Prop where
  at_ : H a = some (.lst vs)
  nb : a ≠ b
  nc : a ≠ c
  all : ∀ v ∈ vs, ∃ n, Bv b c H v n
theorem Bs.kept {b c a : Addr} {vs : List V} {H H' : Hp} (h : Bs b c a vs H) (k : Kept b c H H') : Bs b c a vs H' := ⟨k _ _ h.at_ h.nb h.nc, h.nb, h.nc, fun v hv => by
  obtain ⟨n, z⟩ := h.all v hv
  exact ⟨n, z.kept k⟩⟩
theorem WBad.same {K : PySem.W.Frag} {C : Addr} {H H' : Hp} {x : V} (h : WBad K C H x) (s : Same H H') : WBad K C H' x := by
  cases h with
  | off t a b => exact .off (tyX_same t s) a b
  | lst e l no => exact .lst (s _ _ e) l no
  | tup e l no => exact .tup (s _ _ e) l no
  | bad e l1 l2 lb sh all => exact .bad (s _ _ e) l1 l2 lb (fun i x b hx hb => (sh i x b hx hb).same s) all
theorem lit_dp {K : PySem.W.Frag} {H : Hp} {s : Str} {l : Nat} {m : Option Nat} {p1 p2 p3 : Addr} (n2 : upd H p1 (.tup [.str s, .int (l : Nat), mostV m]) p2 = none) (n3 : upd (upd H p1 (.tup [.str s, .int (l : Nat), mostV m])) p2 (.tup [.ref p1]) p3 = none) :
    Dp K (upd (upd (upd H p1 (.tup [.str s, .int (l : Nat), mostV m])) p2 (.tup [.ref p1])) p3 (.tup [.ref p2])) (.ref p3) (rowsD [[(s, l, m)]]) := by
  have k2 := same_new (o := .tup [.ref p1]) n2
  have k3 := same_new (o := .tup [.ref p2]) n3
  exact .tup (SqT.of upd_same) (.cons (.tup (SqT.of (k3 _ _ upd_same)) (.cons (.tup (SqT.of (k3 _ _ (k2 _ _ upd_same))) (.cons (.str _) (.cons (.int _) (.cons (most_dp _) .nil)))) .nil)) .nil)
theorem alts_dp {K : PySem.W.Frag} {H : Hp} {t : Addr} {rs : Rws} {rows : List RowL} (h2 : H t = some (.tup (rowsV rs))) (h3 : rs.map (·.1) = rows) (h4 : RowsAt H rs) : Dp K H (.ref t) (rowsD rows) := by
  subst h3
  exact .tup (SqT.of h2) (rows_dp h4)
theorem noA {t n : Addr} : (kindF t n).lookup ("alternatives" : Str) = none := (lk_ne (by decide +kernel)).trans ((lk_ne (by decide +kernel)).trans lk_nil)
theorem norm_nil : norm [] = [] := by decide +kernel
section
variable {P : Program} {w : World} {K : PySem.W.Frag} {mg : Str → Option Value} {base : Heap} {NC KC BK C : Addr}
theorem init_sg {H : Hp} {R : VK} {E : XK} {l : List Nat} (hl : SgT l) {x dx : Addr} (hx : H x = none) (hdx : H dx = none) (q : ∀ H', Same H H' → Sg C H' x (norm l) → R .non H') : spInit C (.ref x :: ([.str (tx l)] ++ [])) (upd (upd H dx (.own x)) x (.ins C dx [])) R E := by
  refine ⟨x, dx, l, rfl, upd_same, hl, fun H' k e => q H' (fun b o z => k b o ?_ (ne_of_none z hx)) ⟨⟨dx, e⟩, norm_norm l⟩⟩
  rw [upd_ne (ne_of_none z hx), upd_ne (ne_of_none z hdx)]
  exact z
theorem init_sg0 {H : Hp} {R : VK} {E : XK} {x dx : Addr} (hx : H x = none) (hdx : H dx = none) (q : ∀ H', Same H H' → Sg C H' x [] → R .non H') : spInit C (.ref x :: ([] ++ [.str ""])) (upd (upd H dx (.own x)) x (.ins C dx [])) R E := by
  have z := init_sg (C := C) (H := H) (R := R) (E := E) (l := []) ⟨by simp, by decide⟩ hx hdx (by rw [norm_nil]; exact q)
  exact z
/-- the defs that the law calls -/
structure Parts (P : Program) (w : World) (K : PySem.W.Frag) (mg : Str → Option Value) (base : Heap) (NC KC BK C : Addr) : Prop where
  bag : Can P w K mg base CX0 "_law_bag" ["_law_script"] 1 (spBag K)
  draw : Can P w K mg base CX0 "_law_draw" ["_law_bag_here", "_law_limit"] 1 spDraw
  letters : Can P w K mg base CX0 "_law_letters" ["_law_bag_here", "_law_many"] 2 spLetters
  bound : Can P w K mg base CX0 "_law_bound" ["_law_bag_here"] 2 spBound
  told : Can P w K mg base CX0 "_law_run_told" ["_law_shown", "_law_low", "_law_top"] 9 (spTold K C)
  due : Can P w K mg base CX0 "_law_run_due" ["_law_given", "_law_low", "_law_top"] 2 (spDue K)
  wtold : Can P w K mg base CX0 "_law_words_told" ["_law_given_row"] 4 (spWTold K C)
  bad : Can P w K mg base CX0 "_law_bad_words" ["_law_bag_here", "_law_letters_here"] 2 (spBadWords K C)
  times : Can P w K mg base CX0 "_law_times_refused" ["_law_kind", "_law_times"] 5 (spTimes KC)
  make : CanMk P w K mg base C
  alts : ∃ fA fdA, Meth K KC "alternatives" fA ∧ FnOk P w K mg base CX0 1 fA fdA ["self"] (spAlts KC) ∧ Binds K fdA ["self"] []
  run : ∃ fR fdR ds1 ds2 g, Stat K KC "run" fR ∧ FnOk P w K mg base (L2N.CX P w) 8 fR fdR ["signs", "least", "most"] (spRun K NC KC BK C) ∧ Vals [.int 1, .int 1] ds2 ∧ Binds K fdR ["signs", "least", "most"] ds2 ∧ Vals [.int 1] ds1 ∧ Binds K fdR ["signs", "least", "most"] ds1 ∧
    KBn K fdR ["signs", "least", "most"] 1 ["most"] g (fun vs zs => vs ++ ([.int 1] ++ zs))
def spLaw (K : PySem.W.Frag) : Sp := fun vs H Q _ => ∃ (a : Addr) (ns : List Int), vs = [.ref a] ∧ SqL K H a (ns.map V.int) ∧ ns.length ≤ 63 ∧ ∀ H', Q (.bl true) H'
set_option maxHeartbeats 40000000 in
theorem ok_law {f : Addr} {fd : FuncData} (F : FnP K "law" "law" s_law f fd) (N : Nms mg) (T : Txt K mg C) (KK : KindC K KC) (gK : mg "Kind" = some (.ref KC)) (SeS : Sees K C) (SeK : Sees K KC) (Ap : Apart K C KC) (Z : Parts P w K mg base NC KC BK C) : FnOk P w K mg base CX0 10 f fd ["_law_script"] (spLaw K) := by
  obtain ⟨fB, fdB, GB, gB, kB, bB⟩ := Z.bag
  obtain ⟨fD, fdD, GD, gD, kD, bD⟩ := Z.draw
  obtain ⟨fL, fdL, GL, gL, kL, bL⟩ := Z.letters
  obtain ⟨fO, fdO, GO, gO, kO, bO⟩ := Z.bound
  obtain ⟨fT, fdT, GT, gT, kT, bT⟩ := Z.told
  obtain ⟨fU, fdU, GU, gU, kU, bU⟩ := Z.due
  obtain ⟨fW, fdW, GW, gW, kW, bW⟩ := Z.wtold
  obtain ⟨fX, fdX, GX, gX, kX, bX⟩ := Z.bad
  obtain ⟨fY, fdY, GY, gY, kY, bY⟩ := Z.times
  obtain ⟨fI, fdI, MI, GI, bI, ds0, vds, bI0⟩ := Z.make
  obtain ⟨fA, fdA, MA, GA, bA⟩ := Z.alts
  obtain ⟨fR, fdR, ds1, ds2, g, SR, GR, v2, b2, v1, b1, kb⟩ := Z.run
  have nd := sc_law.nd
  refine F.ok sc_law (fun vs H Q E h => ?_) (fun cdv A outer s H vs Q E hr h => ?_)
  · obtain ⟨a, ns, rfl, _⟩ := h
    rfl
  · obtain ⟨a, ns, rfl, hS, hlen, q⟩ := h
    have r1 := hr.mono (show 1 ≤ 9 by decide)
    have r2 := hr.mono (show 2 ≤ 9 by decide)
    have r3 := hr.mono (show 3 ≤ 9 by decide)
    have r4 := hr.mono (show 4 ≤ 9 by decide)
    have r5 := hr.mono (show 5 ≤ 9 by decide)
    have r8 := hr.mono (show 8 ≤ 9 by decide)
    refine ⟨_, PSs.nox (pss_cons (ps_set (i := 1) nd rfl (.inl rfl) (pe_call GB r1 (by rfl) gB kB bB .nil pass0 (pa_cons (pv 0) pa_nil)))
      (pss_cons (ps_set (i := 2) nd rfl (.inl rfl) (pe_call GL r2 (by rfl) gL kL bL .nil pass0 (pa_cons (pv 1) (pa_cons pe_int pa_nil))))
      (pss_cons (ps_set (i := 3) nd rfl (.inl rfl) (pe_joinK (K := K) rfl pe_str (pe_slice (r := rSlL K) sl_list (pv 2) po_none (po_some (pe_op op_add pe_int (pe_call GD r1 (by rfl) gD kD bD .nil pass0 (pa_cons (pv 1) (pa_cons pe_int pa_nil))))))))
      (pss_cons (ps_set (i := 4) nd rfl (.inl rfl) (pe_joinK (K := K) rfl pe_str (pe_callB (r := rSortedS K) cr_sortedS (by rfl) N.sorted (by decide +kernel) (pa_cons (pe_callTy (call_listTx rfl) (by rfl) N.list (by decide +kernel) (pa_cons (pv 3) pa_nil)) pa_nil))))
      (pss_cons (ps_set (i := 5) nd rfl (.inl rfl) (pe_stat SR GR r8 (by rfl) gK b2 v2 (L2N.passAt (nothingOut)) (pa_cons (pv 3) pa_nil)))
      (pss_cons (ps_for PassesOwn.never rfl (pi_list (pe_lst (pa_cons (pe_call GO r2 (by rfl) gO kO bO .nil pass0 (pa_cons (pv 1) pa_nil)) (pa_cons (pe_call GO r2 (by rfl) gO kO bO .nil pass0 (pa_cons (pv 1) pa_nil)) (pa_cons pe_int pa_nil))))) (pg_name (i := 6) nd rfl (.inl rfl))
        (pss_one (ps_for PassesOwn.never rfl (pi_list (pe_lst (pa_cons (pe_call GO r2 (by rfl) gO kO bO .nil pass0 (pa_cons (pv 1) pa_nil)) (pa_cons (pe_call GO r2 (by rfl) gO kO bO .nil pass0 (pa_cons (pv 1) pa_nil)) (pa_cons (pe_call GO r2 (by rfl) gO kO bO .nil pass0 (pa_cons (pv 1) pa_nil)) (pa_cons pe_non pa_nil)))))) (pg_name (i := 7) nd rfl (.inl rfl))
          (pss_cons (ps_for PassesOwn.never rfl (pi_list (pe_lst (pa_cons (pv 3) (pa_cons (pe_op op_add_str (pv 3) (pv 3)) (pa_cons (pe_make MI GI r3 (by rfl) T.gC bI .nil pass0 (pa_cons (pv 3) pa_nil)) pa_nil))))) (pg_name (i := 8) nd rfl (.inl rfl))
            (pss_one (ps_if (pt_cmpR (r := rNeD K) (op_neD hr.units) (pe_call GT hr (by rfl) gT kT bT .nil pass0 (pa_cons (pv 8) (pa_cons (pv 6) (pa_cons (pv 7) pa_nil)))) (pe_call GU r2 (by rfl) gU kU bU .nil pass0 (pa_cons (pv 4) (pa_cons (pv 6) (pa_cons (pv 7) pa_nil)))) (nomark _)) (pss_one (ps_ret pe_bl)) pss_nil)))
          (pss_one (ps_for PassesOwn.never rfl (pi_list (pe_lst (pa_cons pe_str (pa_cons (pe_make0 MI GI r3 (by rfl) T.gC bI0 vds pass0) (pa_cons pe_non (pa_cons pe_int (pa_cons pe_bl (pa_cons (pe_lst (pa_cons (pv 3) pa_nil)) (pa_cons (pe_tup (pa_cons (pv 3) pa_nil)) (pa_cons (pe_op op_add_str (pv 3) pe_str)
              (pa_cons (pe_disp (pps_cons (pv 3) pe_int pps_nil) (by rfl) (by rfl) (fun z => by cases z) (by decide)) (pa_cons (pv 5) pa_nil)))))))))))) (pg_name (i := 9) nd rfl (.inl rfl))
            (pss_one (ps_if (pt_cmpR (r := rNeD K) (op_neD hr.units) (pe_call GT hr (by rfl) gT kT bT .nil pass0 (pa_cons (pv 9) (pa_cons (pv 6) (pa_cons (pv 7) pa_nil)))) (pe_tup (pa_cons pe_str (pa_cons pe_bl pa_nil))) (nomark _)) (pss_one (ps_ret pe_bl)) pss_nil))))))))
      (pss_cons (ps_if (PW.pt (pw_or (pt_cmpR (r := rNeD K) (op_neD hr.units) (pe_meth0 (pv 5) KK.cl MA GA r1 bA .nil pass0) (pe_tup (pa_cons (pe_tup (pa_cons (pe_tup (pa_cons (pv 4) (pa_cons pe_int (pa_cons pe_int pa_nil)))) pa_nil)) pa_nil)) (nomark _))
          (pw_or1 (pt_cmpR (r := rNeD K) (op_neD hr.units) (pe_meth0 (pe_stat SR GR r8 (by rfl) gK b1 v1 (L2N.passAt (nothingOut)) (pa_cons (pv 3) (pa_cons pe_int pa_nil))) KK.cl MA GA r1 bA .nil pass0) (pe_tup (pa_cons (pe_tup (pa_cons (pe_tup (pa_cons (pv 4) (pa_cons pe_int (pa_cons pe_int pa_nil)))) pa_nil)) pa_nil)) (nomark _))))) (pss_one (ps_ret pe_bl)) pss_nil)
      (pss_cons (ps_if (pt_cmpR (r := rNeD K) (op_neD hr.units) (pe_meth0 (pe_statK SR GR r8 (by rfl) gK kb (L2N.passAt (nothingOut)) (pa_cons (pv 3) pa_nil) (pk_cons pe_int pk_nil)) KK.cl MA GA r1 bA .nil pass0) (pe_tup (pa_cons (pe_tup (pa_cons (pe_tup (pa_cons (pv 4) (pa_cons pe_int (pa_cons pe_int pa_nil)))) pa_nil)) pa_nil)) (nomark _)) (pss_one (ps_ret pe_bl)) pss_nil)
      (pss_cons (ps_for PassesOwn.never rfl (pi_list (pe_lst (pa_cons (pe_call GX r2 (by rfl) gX kX bX .nil pass0 (pa_cons (pv 1) (pa_cons (pv 2) pa_nil))) (pa_cons (pe_lst pa_nil) (pa_cons (pe_tup pa_nil) (pa_cons (pe_op op_rep (pe_lst (pa_cons (pv 3) pa_nil)) pe_int) (pa_cons (pv 3) (pa_cons pe_non
            (pa_cons (pe_disp (pps_cons (pv 3) pe_int pps_nil) (by rfl) (by rfl) (fun z => by cases z) (by decide)) (pa_cons pe_int (pa_cons (pe_make MI GI r3 (by rfl) T.gC bI .nil pass0 (pa_cons (pv 3) pa_nil)) pa_nil))))))))))) (pg_name (i := 10) nd rfl (.inl rfl))
          (pss_one (ps_if (pt_cmpR (r := rNeD K) (op_neD hr.units) (pe_call GW r4 (by rfl) gW kW bW .nil pass0 (pa_cons (pv 10) pa_nil)) (pe_tup (pa_cons pe_str (pa_cons pe_bl pa_nil))) (nomark _)) (pss_one (ps_ret pe_bl)) pss_nil)))
      (pss_cons (ps_for PassesOwn.never rfl (pi_list (pe_lst (pa_cons pe_int (pa_cons pe_int (pa_cons (pe_un un_neg pe_int) (pa_cons pe_bl (pa_cons pe_bl (pa_cons pe_non (pa_cons pe_str (pa_cons (pe_lst (pa_cons pe_int pa_nil)) (pa_cons (pe_op op_add pe_int (pe_call GD r1 (by rfl) gD kD bD .nil pass0 (pa_cons (pv 1) (pa_cons pe_int pa_nil)))) pa_nil))))))))))) (pg_name (i := 11) nd rfl (.inl rfl))
          (pss_one (ps_if (pt_not (pt_val (pe_call GY r5 (by rfl) gY kY bY .nil pass0 (pa_cons (pv 5) (pa_cons (pv 11) pa_nil))))) (pss_one (ps_ret pe_bl)) pss_nil)))
      (pss_one (ps_ret (pe_cmpR (r := rEqD K) (op_eqD hr.units) (pe_meth0 (pv 5) KK.cl MA GA r1 bA .nil pass0) (pe_tup (pa_cons (pe_tup (pa_cons (pe_tup (pa_cons (pv 4) (pa_cons pe_int (pa_cons pe_int pa_nil)))) pa_nil)) pa_nil)) (nomark _)))))))))))))), ?_⟩
    -- the bag, the letters, the word
    refine ⟨_, rfl, a, ns, rfl, hS, hlen, fun b c H1 hb hc B1 s1 => ?_⟩
    refine ⟨_, rfl, b, c, 5, rfl, B1, by decide, by decide, fun p ls H2 len ndl sub hp ep B2 K2 => ?_⟩
    have pb := B1.neB hp
    have pc := B1.neC hp
    refine ⟨⟨_, rfl⟩, _, rfl, _, rfl, b, c, 5, rfl, B2, by decide, by decide, fun d H3 d0 d5 B3 K3 => ⟨_, _, rfl, rfl, ?_⟩⟩
    obtain ⟨d, rfl⟩ := Int.eq_ofNat_of_zero_le d0
    have ep3 := K3 _ _ ep pb pc
    refine ⟨1 + (d : Int), rfl, p, _, rfl, SqL.of ep3, fun g1 ng1 => ?_⟩
    have ec : cutV (lettersV ls) none (some (1 + (d : Int))) = lettersV (ls.take (1 + d)) := by
      have e : (1 + (d : Int)) = ((1 + d : Nat) : Int) := by omega
      rw [e, cut_take]
      unfold lettersV
      rw [List.map_take]
    rw [ec]
    generalize hw : ls.take (1 + d) = ws
    have lw : ws.length ≤ 5 := by rw [← hw, List.length_take]; omega
    have lw1 : 1 ≤ ws.length := by rw [← hw, List.length_take]; omega
    have sw : ∀ n ∈ ws, n ∈ alpha := fun n hn => sub n (List.mem_of_mem_take (by rw [hw]; exact hn))
    have ndw : ws.Nodup := by
      rw [← hw]
      exact List.Nodup.sublist (List.take_sublist _ _) ndl
    refine join_rd (l := ws) upd_same (by omega) ?_
    have k4 := same_new (o := .lst (lettersV ws)) ng1
    -- its signs in order
    refine ⟨⟨_, rfl⟩, _, rfl, ws, rfl, line_small (by omega), fun g2 ng2 => ?_⟩
    have k5 := same_new (o := .lst (ws.map fun n => V.str (sg n))) ng2
    refine ⟨g2, ws.map sg, rfl, SqL.of (by rw [← strs_sg]; exact upd_same), (by rw [List.length_map]; omega), fun ys g3 perm srt ng3 => ?_⟩
    have ey : ys = (norm ws).map sg := by
      refine once_eq sw srt (perm.nodup_iff.mpr ?_) fun z => perm.mem_iff
      exact List.Pairwise.map sg (fun x y n e => n (sg_inj e)) ndw
    subst ey
    have k6 := same_new (o := .lst (((norm ws).map sg).map V.str)) ng3
    have lS : (norm ws).length ≤ 94 := norm_len ws
    have sS : ∀ n ∈ norm ws, n ∈ alpha := norm_sub ws
    have neS : norm ws ≠ [] := fun z => by
      cases hws : ws with
      | nil =>
        rw [hws] at lw1
        exact absurd lw1 (by decide)
      | cons x r =>
        have m : x ∈ norm ws := (mem_norm sw x).mpr (by rw [hws]; exact List.mem_cons_self)
        rw [z] at m
        cases m
    generalize hSS : norm ws = S at lS sS neS ng3 k6 perm srt ⊢
    refine ⟨tx [], g3, S.map sg, rfl, rfl, .inl (SqL.of upd_same), ?_, ?_⟩
    · rw [sum_sg, len_tx, List.length_map]
      show S.length + S.length * 0 ≤ 16777216
      omega
    rw [join_sg]
    have k36 := k4.trans (k5.trans k6)
    have sgt : SgT ws := ⟨sw, by omega⟩
    have spw : ∀ {H : Hp}, Spl K C H (.str (tx ws)) (some S) := fun {H} => by
      rw [← hSS]
      exact .txt sgt
    -- the kind
    refine ⟨_, rfl, _, _, _, some S, .int 1, .int 1, rfl, spw, rfl, rfl, (fun no => ?_), fun r er => ?_⟩
    · rw [runOk_due neS] at no
      cases no
    have er2 : r = (tx S, 1, some 1) := by
      rw [runOk_due neS] at er
      exact (Option.some.inj er).symm
    subst er2
    intro k H7 s7 nk kat
    have kl := kat.lite
    have B7 : Bag H7 b c := (B3.same k36).same s7
    have std0 : Std KC b c p k ls S H7 := ⟨B7, s7 _ _ (k36 _ _ ep3), pb, pc, kl⟩
    have shS : ∀ o, SeqAt.shaped (resD (dueR (tx S) o)) = true := resD_ok (tx_ok sS)
    have shR : ∀ l m, SeqAt.shaped (rowsD [[(tx S, l, m)]]) = true := rowsD_ok (tx_ok sS)
    have z1 : (1 : Nat) ≤ sizeLine := line_small (by decide)
    have z2 : (2 : Nat) ≤ sizeLine := line_small (by decide)
    have z3 : (3 : Nat) ≤ sizeLine := line_small (by decide)
    have wlen : ∀ k : Nat, k ≤ 5 → ws.length + k ≤ sizeLine := fun k hk => line_small (by omega)
    -- the drawn bounds of below
    refine ⟨_, rfl, b, c, rfl, B7, fun u1 n1 G1 C1 J1 V1 => ?_⟩
    refine ⟨_, rfl, b, c, rfl, C1, fun u2 n2 G2 C2 J2 V2 => ?_⟩
    refine ⟨z3, fun a1 na1 => ⟨a1, rfl, ⟨_, SqL.of upd_same⟩, ?_⟩⟩
    have q1 := same_new (o := .lst [u1, u2, .int 1]) na1
    have bs1 : Bs b c a1 [u1, u2, .int 1] (upd G2 a1 (.lst [u1, u2, .int 1])) := ⟨upd_same, C2.neB na1, C2.neC na1, fun v hv => by
      rcases List.mem_cons.mp hv with rfl | hv
      · exact ⟨_, (V1.kept J2).kept (Kept.of q1)⟩
      rcases List.mem_cons.mp hv with rfl | hv
      · exact ⟨_, V2.kept (Kept.of q1)⟩
      · rw [List.mem_singleton.mp hv]
        exact ⟨_, .int 1⟩⟩
    have std1 : Std KC b c p k ls S (upd G2 a1 (.lst [u1, u2, .int 1])) := (std0.kept C2 (J1.trans J2)).same q1
    refine for_list (xs := [u1, u2, .int 1]) (fun _ σ H' => ∃ x6 x7 x8 x9 x10 x11, σ = [some (.ref a), some (.ref b), some (.ref p), some (.str (tx ws)), some (.str (tx S)), some (.ref k), x6, x7, x8, x9, x10, x11] ∧ Std KC b c p k ls S H' ∧ Bs b c a1 [u1, u2, .int 1] H') ⟨none, none, none, none, none, none, rfl, std1, bs1⟩ (fun i σ H' _ h => by
      obtain ⟨_, _, _, _, _, _, _, _, bs⟩ := h
      exact SqL.of bs.at_) ?_ ?_
    · rintro i x σ H8 hx ⟨x6, x7, x8, x9, x10, x11, rfl, std8, bs8⟩
      obtain ⟨nx, vx⟩ := bs8.all x (List.mem_of_getElem? hx)
      refine ⟨_, rfl, b, c, rfl, std8.bag, fun t1 m1 G3 C3 J3 V3 => ?_⟩
      refine ⟨_, rfl, b, c, rfl, C3, fun t2 m2 G4 C4 J4 V4 => ?_⟩
      refine ⟨_, rfl, b, c, rfl, C4, fun t3 m3 G5 C5 J5 V5 => ?_⟩
      refine ⟨line_small (by show 4 ≤ 16777216; decide), fun a2 na2 => ⟨a2, rfl, ⟨_, SqL.of upd_same⟩, ?_⟩⟩
      have q2 := same_new (o := .lst [t1, t2, t3, .non]) na2
      have J8 := (J3.trans J4).trans J5
      have bs2 : Bs b c a2 [t1, t2, t3, .non] (upd G5 a2 (.lst [t1, t2, t3, .non])) := ⟨upd_same, C5.neB na2, C5.neC na2, fun v hv => by
        rcases List.mem_cons.mp hv with rfl | hv
        · exact ⟨_, ((V3.kept J4).kept J5).kept (Kept.of q2)⟩
        rcases List.mem_cons.mp hv with rfl | hv
        · exact ⟨_, (V4.kept J5).kept (Kept.of q2)⟩
        rcases List.mem_cons.mp hv with rfl | hv
        · exact ⟨_, V5.kept (Kept.of q2)⟩
        · rw [List.mem_singleton.mp hv]
          exact ⟨_, .non⟩⟩
      refine for_list (xs := [t1, t2, t3, .non]) (fun _ σ H' => ∃ x7 x8 x9 x10 x11, σ = [some (.ref a), some (.ref b), some (.ref p), some (.str (tx ws)), some (.str (tx S)), some (.ref k), some x, x7, x8, x9, x10, x11] ∧ Std KC b c p k ls S H' ∧ Bs b c a1 [u1, u2, .int 1] H' ∧ Bs b c a2 [t1, t2, t3, .non] H' ∧ Bv b c H' x nx)
        ⟨x7, x8, x9, x10, x11, rfl, (std8.kept C5 J8).same q2, (bs8.kept J8).kept (Kept.of q2), bs2, (vx.kept J8).kept (Kept.of q2)⟩ (fun i σ H' _ h => by
          obtain ⟨_, _, _, _, _, _, _, _, bs, _⟩ := h
          exact SqL.of bs.at_) ?_ ?_
      · rintro j y σ H9 hy ⟨x7, x8, x9, x10, x11, rfl, std9, bs19, bs29, vx9⟩
        obtain ⟨ny, vy9⟩ := bs29.all y (List.mem_of_getElem? hy)
        -- what is shown
        refine ⟨_, rfl, _, rfl, _, rfl, tx ws, tx ws, rfl, rfl, by rw [len_tx]; exact line_small (by omega), ?_⟩
        rw [tx_app]
        refine ⟨_, rfl, ?_⟩
        intro r dxr nr hdxr _
        refine init_sg sgt nr hdxr fun HA sA gA => ⟨rfl, ?_⟩
        rw [hSS] at gA
        refine ⟨z3, fun a3 na3 => ⟨a3, rfl, ⟨_, SqL.of upd_same⟩, ?_⟩⟩
        have q3 := same_new (o := .lst [.str (tx ws), .str (tx (ws ++ ws)), .ref r]) na3
        have s9 := sA.trans q3
        have sp3 : ∀ v ∈ [V.str (tx ws), V.str (tx (ws ++ ws)), V.ref r], Spl K C (upd HA a3 (.lst [.str (tx ws), .str (tx (ws ++ ws)), .ref r])) v (some S) := fun v hv => by
          rcases List.mem_cons.mp hv with rfl | hv
          · exact spw
          rcases List.mem_cons.mp hv with rfl | hv
          · have e : norm (ws ++ ws) = S := by
              rw [← hSS]
              exact norm_congr fun n _ => by rw [List.mem_append, or_self]
            rw [← e]
            exact .txt ⟨fun n hn => (List.mem_append.mp hn).elim (sw n) (sw n), by rw [List.length_append]; omega⟩
          · rw [List.mem_singleton.mp hv]
            exact .set (gA.same q3)
        refine for_list (xs := [V.str (tx ws), V.str (tx (ws ++ ws)), V.ref r]) (fun _ σ H' => ∃ x8 x9 x10 x11, σ = [some (.ref a), some (.ref b), some (.ref p), some (.str (tx ws)), some (.str (tx S)), some (.ref k), some x, some y, x8, x9, x10, x11] ∧ Same (upd HA a3 (.lst [.str (tx ws), .str (tx (ws ++ ws)), .ref r])) H')
          ⟨x8, x9, x10, x11, rfl, Same.refl _⟩ (fun i σ H' _ h => by
            obtain ⟨_, _, _, _, _, sm⟩ := h
            exact SqL.of (sm _ _ upd_same)) ?_ ?_
        · rintro i v σ HB hv ⟨x8, x9, x10, x11, rfl, sm⟩
          have sB := s9.trans sm
          have spv := (sp3 v (List.mem_of_getElem? hv)).same sm
          refine ⟨_, rfl, _, rfl, _, rfl, v, x, y, some S, nx, ny, rfl, spv, (vx9.kept (Kept.of sB)).at, (vy9.kept (Kept.of sB)).at, fun t HC sC _ dC => ?_⟩
          refine ⟨_, rfl, _, rfl, _, rfl, tx S, x, y, nx, ny, rfl, (vx9.kept (Kept.of (sB.trans sC))).at, (vy9.kept (Kept.of (sB.trans sC))).at, fun t2 HD sD _ dD => ?_⟩
          rw [runOk_due neS] at dC
          refine ne_no (dp_same sD _ _ dC) dD (shS _) ⟨_, rfl, iteF ?_⟩
          exact ⟨_, _, _, _, rfl, (sm.trans sC).trans sD⟩
        rintro σ HB ⟨x8, x9, x10, x11, rfl, smB⟩
        -- what is no signs
        have sB := s9.trans smB
        intro r0 dxr nr0 hdxr _
        refine init_sg0 nr0 hdxr fun HC sC gC => ⟨rfl, ?_⟩
        refine ⟨_, rfl, z1, fun g4 ng4 => ?_⟩
        have q4 := same_new (o := .lst [.str (tx ws)]) ng4
        refine ⟨_, rfl, z1, fun g5 ng5 => ?_⟩
        have q5 := same_new (o := .tup [.str (tx ws)]) ng5
        refine ⟨_, rfl, tx ws, tx [10], rfl, rfl, by rw [len_tx]; exact wlen 1 (by decide), ?_⟩
        rw [tx_app]
        intro g6 ng6
        have q6 := same_new (o := .dK []) ng6
        refine ⟨_, rfl, upd_same, [(Sum.inr (tx ws), .int 1)], rfl, (by show 1 ≤ 15; decide), ?_⟩
        rw [upd_over]
        have q7 := same_new (o := .dK (mergeK [] [(Sum.inr (tx ws), .int 1)])) ng6
        refine ⟨_, rfl, line_small (by show 10 ≤ 16777216; decide), fun a4 na4 => ⟨a4, rfl, ⟨_, SqL.of upd_same⟩, ?_⟩⟩
        generalize hT : [V.str "", V.ref r0, V.non, V.int 0, V.bl true, V.ref g4, V.ref g5, V.str (tx (ws ++ [10])), V.ref g6, V.ref k] = things at na4 ⊢
        have q8 := same_new (o := .lst things) na4
        have s49 := sC.trans (q4.trans (q5.trans (q7.trans q8)))
        have sC9 := sB.trans s49
        have e4 := q8 _ _ (q7 _ _ (q5 _ _ (upd_same (H := HC) (a := g4) (o := .lst [.str (tx ws)]))))
        have e5 := q8 _ _ (q7 _ _ (upd_same (H := upd HC g4 (.lst [.str (tx ws)])) (a := g5) (o := .tup [.str (tx ws)])))
        have e6 := q8 _ _ (upd_same (H := upd (upd HC g4 (.lst [.str (tx ws)])) g5 (.tup [.str (tx ws)])) (a := g6) (o := .dK (mergeK [] [(Sum.inr (tx ws), .int 1)])))
        have stdC := std9.same sC9
        have ask : ∀ v ∈ things, ∃ So, Spl K C (upd (upd (upd (upd HC g4 (.lst [.str (tx ws)])) g5 (.tup [.str (tx ws)])) g6 (.dK (mergeK [] [(Sum.inr (tx ws), .int 1)]))) a4 (.lst things)) v So ∧ ∀ o, runOk So o = none := by
          rw [← hT]
          intro v hv
          rcases List.mem_cons.mp hv with rfl | hv
          · exact ⟨some (norm []), .txt (l := []) ⟨by simp, by decide⟩, fun o => by rw [norm_nil]; cases o <;> rfl⟩
          rcases List.mem_cons.mp hv with rfl | hv
          · exact ⟨some [], .set (hT ▸ gC.same (q4.trans (q5.trans (q7.trans q8)))), fun o => by cases o <;> rfl⟩
          rcases List.mem_cons.mp hv with rfl | hv
          · exact ⟨none, .off (.base .non) (Ap.no _ (by decide)) (kit_ty (by decide +kernel)), fun o => by cases o <;> rfl⟩
          rcases List.mem_cons.mp hv with rfl | hv
          · exact ⟨none, .off (.base (.int _)) (Ap.no _ (by decide)) (kit_ty (by decide +kernel)), fun o => by cases o <;> rfl⟩
          rcases List.mem_cons.mp hv with rfl | hv
          · exact ⟨none, .off (.base (.bl _)) (Ap.no _ (by decide)) (kit_ty (by decide +kernel)), fun o => by cases o <;> rfl⟩
          rcases List.mem_cons.mp hv with rfl | hv
          · exact ⟨none, .off (.base (.lst (hT ▸ e4))) (Ap.no _ (by decide)) (kit_ty (by decide +kernel)), fun o => by cases o <;> rfl⟩
          rcases List.mem_cons.mp hv with rfl | hv
          · exact ⟨none, .off (.base (.tup (hT ▸ e5))) (Ap.no _ (by decide)) (kit_ty (by decide +kernel)), fun o => by cases o <;> rfl⟩
          rcases List.mem_cons.mp hv with rfl | hv
          · exact ⟨none, .bad (l := ws ++ [10]) (by rw [List.length_append]; show ws.length + 1 ≤ 2000; omega) (by rw [List.all_append]; simp [ten_no]), fun o => by cases o <;> rfl⟩
          rcases List.mem_cons.mp hv with rfl | hv
          · exact ⟨none, .off (.base (.dK (hT ▸ e6))) (Ap.no _ (by decide)) (kit_ty (by decide +kernel)), fun o => by cases o <;> rfl⟩
          · rw [List.mem_singleton.mp hv]
            obtain ⟨dx, t, n, rs, h1, _⟩ := stdC.kind
            exact ⟨none, .off (SeK.ty KK.cl (hT ▸ h1)) Ap.dS (Ap.dOff _ (by decide)), fun o => by cases o <;> rfl⟩
        refine for_list (xs := things) (fun _ σ H' => ∃ x8 x9 x10 x11, σ = [some (.ref a), some (.ref b), some (.ref p), some (.str (tx ws)), some (.str (tx S)), some (.ref k), some x, some y, x8, x9, x10, x11] ∧ Same (upd (upd (upd (upd HC g4 (.lst [.str (tx ws)])) g5 (.tup [.str (tx ws)])) g6 (.dK (mergeK [] [(Sum.inr (tx ws), .int 1)]))) a4 (.lst things)) H')
          ⟨x8, x9, x10, x11, rfl, Same.refl _⟩ (fun i σ H' _ h => by
            obtain ⟨_, _, _, _, _, sm⟩ := h
            exact SqL.of (sm _ _ upd_same)) ?_ ?_
        · rintro i v σ HD hv ⟨x8, x9, x10, x11, rfl, sm⟩
          obtain ⟨So, spv, no⟩ := ask v (List.mem_of_getElem? hv)
          have sD := sC9.trans sm
          refine ⟨_, rfl, _, rfl, _, rfl, v, x, y, So, nx, ny, rfl, spv.same sm, (vx9.kept (Kept.of sD)).at, (vy9.kept (Kept.of sD)).at, fun t HE sE _ dE => ?_⟩
          rw [no] at dE
          refine ⟨z2, fun t2 nt2 => ?_⟩
          have q9 := same_new (o := .tup [.str "refused", .bl true]) nt2
          refine ne_no (dp_same q9 _ _ dE) (resD_none upd_same) resN_ok ⟨_, rfl, iteF ?_⟩
          exact ⟨_, _, _, _, rfl, (sm.trans sE).trans q9⟩
        rintro σ HD ⟨x8, x9, x10, x11, rfl, sm⟩
        have sD := Kept.of (b := b) (c := c) (sC9.trans sm)
        exact ⟨_, _, _, _, _, rfl, std9.same (sC9.trans sm), bs19.kept sD, bs29.kept sD, vx9.kept sD⟩
      · rintro σ H9 ⟨x7, x8, x9, x10, x11, rfl, std9, bs19, _, _⟩
        exact ⟨_, _, _, _, _, _, rfl, std9, bs19⟩
    rintro σ H8 ⟨x6, x7, x8, x9, x10, x11, rfl, std8, _⟩
    -- the kinds once more
    obtain ⟨dx8, t8, n8, rs8, k81, k82, k83, k84⟩ := id std8.kind
    refine ⟨_, rfl, k, dx8, _, rfl, k81, noA, k, _, rfl, std8.kind, fun t rs h2 h3 h4 => ?_⟩
    refine ⟨_, rfl, z3, fun p1 m1 => ⟨z1, fun p2 m2 => ⟨z1, fun p3 m3 => ?_⟩⟩⟩
    have c1 := same_new (o := .tup [.str (tx S), .int (1 : Nat), mostV (some 1)]) m1
    have c2 := same_new (o := .tup [.ref p1]) m2
    have c3 := same_new (o := .tup [.ref p2]) m3
    refine ne_no (dp_same (c1.trans (c2.trans c3)) _ _ (alts_dp h2 h3 h4)) (lit_dp (l := 1) (m := some 1) m2 m3) (shR 1 (some 1)) ⟨_, rfl, iteF ?_⟩
    have std10 := std8.same (c1.trans (c2.trans c3))
    refine ⟨_, rfl, _, _, _, some S, .int 0, .int 1, rfl, spw, rfl, rfl, (fun no => ?_), fun r er => ?_⟩
    · rw [runOk_due neS] at no
      cases no
    have er2 : r = (tx S, 0, some 1) := by
      rw [runOk_due neS] at er
      exact (Option.some.inj er).symm
    subst er2
    intro kx HB sB _ katx
    obtain ⟨dx9, t9, n9, rs9, k91, k92, k93, k94⟩ := id katx.lite
    refine ⟨kx, dx9, _, rfl, k91, noA, kx, _, rfl, katx.lite, fun t rs h2 h3 h4 => ?_⟩
    refine ⟨_, rfl, z3, fun p4 m4 => ⟨z1, fun p5 m5 => ⟨z1, fun p6 m6 => ?_⟩⟩⟩
    have c4 := same_new (o := .tup [.str (tx S), .int (0 : Nat), mostV (some 1)]) m4
    have c5 := same_new (o := .tup [.ref p4]) m5
    have c6 := same_new (o := .tup [.ref p5]) m6
    refine ne_no (dp_same (c4.trans (c5.trans c6)) _ _ (alts_dp h2 h3 h4)) (lit_dp (l := 0) (m := some 1) m5 m6) (shR 0 (some 1)) ⟨_, rfl, iteF ?_⟩
    have std11 := (std10.same sB).same (c4.trans (c5.trans c6))
    refine ⟨_, rfl, rfl, rfl, _, _, _, some S, .int 1, .int 7, rfl, spw, rfl, rfl, (fun no => ?_), fun r er => ?_⟩
    · rw [runOk_due neS] at no
      cases no
    have er2 : r = (tx S, 1, some 7) := by
      rw [runOk_due neS] at er
      exact (Option.some.inj er).symm
    subst er2
    intro ky HC sC _ katy
    obtain ⟨dxa, ta, na, rsa, ka1, ka2, ka3, ka4⟩ := id katy.lite
    refine ⟨ky, dxa, _, rfl, ka1, noA, ky, _, rfl, katy.lite, fun t rs h2 h3 h4 => ?_⟩
    refine ⟨_, rfl, z3, fun p7 m7 => ⟨z1, fun p8 m8 => ⟨z1, fun p9 m9 => ?_⟩⟩⟩
    have c7 := same_new (o := .tup [.str (tx S), .int (1 : Nat), mostV (some 7)]) m7
    have c8 := same_new (o := .tup [.ref p7]) m8
    have c9 := same_new (o := .tup [.ref p8]) m9
    refine ne_no (dp_same (c7.trans (c8.trans c9)) _ _ (alts_dp h2 h3 h4)) (lit_dp (l := 1) (m := some 7) m8 m9) (shR 1 (some 7)) ⟨_, rfl, iteF ?_⟩
    have std12 := (std11.same sC).same (c7.trans (c8.trans c9))
    -- rows that are refused
    refine ⟨_, rfl, _, rfl, b, c, p, ls, rfl, std12.bag, std12.row, std12.pb, std12.pc, by omega, fun rb HD BD KD nrb nrc wb => ?_⟩
    have std13 := std12.kept BD KD
    refine ⟨Nat.zero_le _, fun l1 ml1 => ?_⟩
    have y1 := same_new (o := .lst []) ml1
    refine ⟨Nat.zero_le _, fun l2 ml2 => ?_⟩
    have y2 := same_new (o := .tup []) ml2
    refine ⟨_, rfl, z1, fun l3 ml3 => ?_⟩
    have y3 := same_new (o := .lst [.str (tx ws)]) ml3
    refine ⟨l3, 21, _, rfl, rfl, upd_same, by decide, by decide, line_small (by show 1 * 21 ≤ 16777216; decide), fun l4 ml4 => ?_⟩
    generalize h21 : (List.replicate (21 : Int).toNat [V.str (tx ws)]).flatten = many at ml4 ⊢
    have len21 : many.length = 21 := by rw [← h21]; rfl
    have y4 := same_new (o := .lst many) ml4
    refine ⟨_, rfl, ?_⟩
    intro l5 ml5
    have y5 := same_new (o := .dK []) ml5
    refine ⟨_, rfl, upd_same, [(Sum.inr (tx ws), .int 1)], rfl, (by show 1 ≤ 15; decide), ?_⟩
    rw [upd_over]
    have y6 := same_new (o := .dK (mergeK [] [(Sum.inr (tx ws), .int 1)])) ml5
    refine ⟨_, rfl, ?_⟩
    intro r9 dxr nr9 hdxr _
    refine init_sg sgt nr9 hdxr fun HE sE gE => ⟨rfl, ?_⟩
    refine ⟨line_small (by show 9 ≤ 16777216; decide), fun l6 ml6 => ⟨l6, rfl, ⟨_, SqL.of upd_same⟩, ?_⟩⟩
    generalize hRow : [V.ref rb, V.ref l1, V.ref l2, V.ref l4, V.str (tx ws), V.non, V.ref l5, V.int 4, V.ref r9] = rows at ml6 ⊢
    have y7 := same_new (o := .lst rows) ml6
    have yE := sE.trans y7
    have y46 := y4.trans (y6.trans yE)
    have x1 := (y2.trans (y3.trans y46)) _ _ (upd_same (H := HD) (a := l1) (o := .lst []))
    have x2 := (y3.trans y46) _ _ (upd_same (H := upd HD l1 (.lst [])) (a := l2) (o := .tup []))
    have x4 := (y6.trans yE) _ _ (upd_same (H := upd (upd (upd HD l1 (.lst [])) l2 (.tup [])) l3 (.lst [.str (tx ws)])) (a := l4) (o := .lst many))
    have x5 := yE _ _ (upd_same (H := upd (upd (upd (upd HD l1 (.lst [])) l2 (.tup [])) l3 (.lst [.str (tx ws)])) l4 (.lst many)) (a := l5) (o := .dK (mergeK [] [(Sum.inr (tx ws), .int 1)])))
    have x9 := gE.same y7
    have yAll := y1.trans (y2.trans (y3.trans y46))
    have std14 := std13.same yAll
    have wbs : ∀ v ∈ rows, WBad K C (upd HE l6 (.lst rows)) v := by
      have wb2 := wb.same yAll
      generalize upd HE l6 (.lst rows) = HF at x1 x2 x4 x5 x9 wb2 ⊢
      rw [← hRow]
      intro v hv
      rcases List.mem_cons.mp hv with rfl | hv
      · exact wb2
      rcases List.mem_cons.mp hv with rfl | hv
      · exact .lst x1 (by decide) (by decide)
      rcases List.mem_cons.mp hv with rfl | hv
      · exact .tup x2 (by decide) (by decide)
      rcases List.mem_cons.mp hv with rfl | hv
      · exact .lst x4 (by omega) (by omega)
      rcases List.mem_cons.mp hv with rfl | hv
      · exact .off (.base (.str _)) (kit_ty (by decide +kernel)) (kit_ty (by decide +kernel))
      rcases List.mem_cons.mp hv with rfl | hv
      · exact .off (.base .non) (kit_ty (by decide +kernel)) (kit_ty (by decide +kernel))
      rcases List.mem_cons.mp hv with rfl | hv
      · exact .off (.base (.dK x5)) (kit_ty (by decide +kernel)) (kit_ty (by decide +kernel))
      rcases List.mem_cons.mp hv with rfl | hv
      · exact .off (.base (.int _)) (kit_ty (by decide +kernel)) (kit_ty (by decide +kernel))
      · rw [List.mem_singleton.mp hv]
        exact .off (T.ty x9) (Ap.off _ (by decide)) (Ap.off _ (by decide))
    refine for_list (xs := rows) (fun _ σ H' => ∃ x6 x7 x8 x9 x10 x11, σ = [some (.ref a), some (.ref b), some (.ref p), some (.str (tx ws)), some (.str (tx S)), some (.ref k), x6, x7, x8, x9, x10, x11] ∧ Same (upd HE l6 (.lst rows)) H') ⟨x6, x7, x8, _, x10, x11, rfl, Same.refl _⟩ (fun i σ H' _ h => by
      obtain ⟨_, _, _, _, _, _, _, sm⟩ := h
      exact SqL.of (sm _ _ upd_same)) ?_ ?_
    · rintro i v σ HF hv ⟨x6, x7, x8, x9, x10, x11, rfl, sm⟩
      refine ⟨_, rfl, v, rfl, (wbs v (List.mem_of_getElem? hv)).same sm, fun t HG sG _ dG => ?_⟩
      refine ⟨z2, fun t2 nt2 => ?_⟩
      have y8 := same_new (o := .tup [.str "refused", .bl true]) nt2
      refine ne_no (dp_same y8 _ _ dG) (resD_none upd_same) resN_ok ⟨_, rfl, iteF ?_⟩
      exact ⟨_, _, _, _, _, _, rfl, (sm.trans sG).trans y8⟩
    rintro σ HF ⟨x6, x7, x8, x9, x10, x11, rfl, smF⟩
    have std15 := std14.same smF
    -- wrong numbers of times
    refine ⟨_, rfl, z1, fun v1 mv1 => ?_⟩
    have w1 := same_new (o := .lst [.int 2]) mv1
    have stdG := std15.same w1
    have v1b := std15.bag.neB mv1
    have v1c := std15.bag.neC mv1
    refine ⟨_, rfl, b, c, 1000, rfl, stdG.bag, by decide, by decide, fun d HG e0 e1 BG KG => ⟨_, _, rfl, rfl, ?_⟩⟩
    have std16 := stdG.kept BG KG
    have ev1 := KG _ _ upd_same v1b v1c
    refine ⟨line_small (by show 9 ≤ 16777216; decide), fun l7 ml7 => ⟨l7, rfl, ⟨_, SqL.of upd_same⟩, ?_⟩⟩
    generalize hTs : [V.int 0, V.int 10, V.int (-1), V.bl true, V.bl false, V.non, V.str "2", V.ref v1, V.int (10 + d)] = ts at ml7 ⊢
    have w2 := same_new (o := .lst ts) ml7
    have ev2 := w2 _ _ ev1
    have std17 := std16.same w2
    have tims : ∀ v ∈ ts, Tim (upd HG l7 (.lst ts)) v := by
      generalize upd HG l7 (.lst ts) = HF2 at ev2 ⊢
      rw [← hTs]
      intro v hv
      rcases List.mem_cons.mp hv with rfl | hv
      · exact .int _ (by decide)
      rcases List.mem_cons.mp hv with rfl | hv
      · exact .int _ (by decide)
      rcases List.mem_cons.mp hv with rfl | hv
      · exact .int _ (by decide)
      rcases List.mem_cons.mp hv with rfl | hv
      · exact .bl _
      rcases List.mem_cons.mp hv with rfl | hv
      · exact .bl _
      rcases List.mem_cons.mp hv with rfl | hv
      · exact .non
      rcases List.mem_cons.mp hv with rfl | hv
      · exact .str
      rcases List.mem_cons.mp hv with rfl | hv
      · exact .lst ev2
      · rw [List.mem_singleton.mp hv]
        exact .int _ (by omega)
    refine for_list (xs := ts) (fun _ σ H' => ∃ x6 x7 x8 x9 x10 x11, σ = [some (.ref a), some (.ref b), some (.ref p), some (.str (tx ws)), some (.str (tx S)), some (.ref k), x6, x7, x8, x9, x10, x11] ∧ Same (upd HG l7 (.lst ts)) H') ⟨x6, x7, x8, x9, _, x11, rfl, Same.refl _⟩ (fun i σ H' _ h => by
      obtain ⟨_, _, _, _, _, _, _, sm⟩ := h
      exact SqL.of (sm _ _ upd_same)) ?_ ?_
    · rintro i v σ HI hv ⟨x6, x7, x8, x9, x10, x11, rfl, sm⟩
      refine ⟨_, rfl, _, rfl, k, _, v, rfl, (std17.same sm).kind, (tims v (List.mem_of_getElem? hv)).same sm, fun HJ sJ => ⟨_, rfl, iteF ?_⟩⟩
      exact ⟨_, _, _, _, _, _, rfl, sm.trans sJ⟩
    rintro σ HI ⟨x6, x7, x8, x9, x10, x11, rfl, smI⟩
    have std18 := std17.same smI
    obtain ⟨dxe, te, ne, rse, ke1, ke2, ke3, ke4⟩ := id std18.kind
    refine ⟨_, rfl, k, dxe, _, rfl, ke1, noA, k, _, rfl, std18.kind, fun t rs h2 h3 h4 => ?_⟩
    refine ⟨_, rfl, z3, fun p10 m10 => ⟨z1, fun p11 m11 => ⟨z1, fun p12 m12 => ?_⟩⟩⟩
    have c10 := same_new (o := .tup [.str (tx S), .int (1 : Nat), mostV (some 1)]) m10
    have c11 := same_new (o := .tup [.ref p10]) m11
    have c12 := same_new (o := .tup [.ref p11]) m12
    exact eq_yes (dp_same (c10.trans (c11.trans c12)) _ _ (alts_dp h2 h3 h4)) (lit_dp (l := 1) (m := some 1) m11 m12) (shR 1 (some 1)) (q _)
end
end K06

set_option autoImplicit false
set_option maxErrors 4
namespace K06
open PySem PySem.Spec PyProof.Rows L2 Tl
set_option maxHeartbeats 40000000 in
theorem facts {P : Program} {w : World} {K : PySem.W.Frag} {h : Heap} {mg : Str → Option Value} {f : Addr} (X : K.In h) (G : h.Ns mainGlobals mg) (hfa : mg ("law" : Str) = some (.ref f)) (c : Tl.SaysS fa fn sd ex K) :
    ∃ fd : FuncData, (∀ (s : Shared) (v : Value), BindsTo s fd ⟨[v], []⟩ [("_law_script", v)]) ∧ ∀ base : Heap, K.In base → base.Ns mainGlobals mg → FnOk P w K mg base CX0 10 f fd ["_law_script"] (spLaw K) := by
  have c0 := c.d
  have hex := c.more
  obtain ⟨e_is_integer, F_is_integer⟩ := c0.def_ 0 (d := d_is_integer) rfl
  obtain ⟨e_is_integer_within, F_is_integer_within⟩ := c0.def_ 1 (d := d_is_integer_within) rfl
  obtain ⟨e_is_row, F_is_row⟩ := c0.def_ 2 (d := d_is_row) rfl
  obtain ⟨e_BadNumber_init_, F_BadNumber_init_⟩ := c0.def_ 3 (d := d_BadNumber_init_) rfl
  obtain ⟨e_Net_init_, F_Net_init_⟩ := c0.def_ 4 (d := d_Net_init_) rfl
  obtain ⟨e_places_by_char, F_places_by_char⟩ := c0.def_ 5 (d := d_places_by_char) rfl
  obtain ⟨e_place_count, F_place_count⟩ := c0.def_ 6 (d := d_place_count) rfl
  obtain ⟨e_run_net, F_run_net⟩ := c0.def_ 7 (d := d_run_net) rfl
  obtain ⟨e_renumbered, F_renumbered⟩ := c0.def_ 8 (d := d_renumbered) rfl
  obtain ⟨e_chained, F_chained⟩ := c0.def_ 9 (d := d_chained) rfl
  obtain ⟨e_side_by_side, F_side_by_side⟩ := c0.def_ 10 (d := d_side_by_side) rfl
  obtain ⟨e_Signs_init_, F_Signs_init_⟩ := c0.def_ 11 (d := d_Signs_init_) rfl
  obtain ⟨e_is_sign_text, F_is_sign_text⟩ := c0.def_ 12 (d := d_is_sign_text) rfl
  obtain ⟨e_is_signs, F_is_signs⟩ := c0.def_ 13 (d := d_is_signs) rfl
  obtain ⟨e_signs_of, F_signs_of⟩ := c0.def_ 14 (d := d_signs_of) rfl
  obtain ⟨e_Kind_init_, F_Kind_init_⟩ := c0.def_ 15 (d := d_Kind_init_) rfl
  obtain ⟨e_Kind_add_, F_Kind_add_⟩ := c0.def_ 16 (d := d_Kind_add_) rfl
  obtain ⟨e_Kind_mul_, F_Kind_mul_⟩ := c0.def_ 17 (d := d_Kind_mul_) rfl
  obtain ⟨e_Kind_rmul_, F_Kind_rmul_⟩ := c0.def_ 18 (d := d_Kind_rmul_) rfl
  obtain ⟨e_Kindalternatives, F_Kindalternatives⟩ := c0.def_ 19 (d := d_Kindalternatives) rfl
  obtain ⟨e_are_bounds, F_are_bounds⟩ := c0.def_ 20 (d := d_are_bounds) rfl
  obtain ⟨e_is_short_text, F_is_short_text⟩ := c0.def_ 21 (d := d_is_short_text) rfl
  obtain ⟨e_without_repeats, F_without_repeats⟩ := c0.def_ 22 (d := d_without_repeats) rfl
  obtain ⟨e_is_too_large, F_is_too_large⟩ := c0.def_ 23 (d := d_is_too_large) rfl
  obtain ⟨e_alternative_net, F_alternative_net⟩ := c0.def_ 24 (d := d_alternative_net) rfl
  obtain ⟨e_l_bag, F_l_bag⟩ := c0.def_ 25 (d := d_l_bag) rfl
  obtain ⟨e_l_draw, F_l_draw⟩ := c0.def_ 26 (d := d_l_draw) rfl
  obtain ⟨e_l_alphabet, F_l_alphabet⟩ := c0.def_ 27 (d := d_l_alphabet) rfl
  obtain ⟨e_l_letters, F_l_letters⟩ := c0.def_ 28 (d := d_l_letters) rfl
  obtain ⟨e_l_is_integer, F_l_is_integer⟩ := c0.def_ 29 (d := d_l_is_integer) rfl
  obtain ⟨e_l_run_told, F_l_run_told⟩ := c0.def_ 30 (d := d_l_run_told) rfl
  obtain ⟨e_l_words_told, F_l_words_told⟩ := c0.def_ 31 (d := d_l_words_told) rfl
  obtain ⟨e_l_times_refused, F_l_times_refused⟩ := c0.def_ 32 (d := d_l_times_refused) rfl
  obtain ⟨e_l_bound, F_l_bound⟩ := c0.def_ 33 (d := d_l_bound) rfl
  obtain ⟨e_l_run_due, F_l_run_due⟩ := c0.def_ 34 (d := d_l_run_due) rfl
  obtain ⟨e_l_bad_words, F_l_bad_words⟩ := c0.def_ 35 (d := d_l_bad_words) rfl
  obtain ⟨e_law, F_law⟩ := c0.def_ 36 (d := d_law) rfl
  obtain ⟨SR, e_Kindrun, F_Kindrun⟩ := c.st ⟨"Kind", "run", d_Kindrun⟩ List.mem_cons_self
  obtain ⟨SW, e_Kindwords, F_Kindwords⟩ := c.st ⟨"Kind", "words", d_Kindwords⟩ (List.mem_cons_of_mem _ List.mem_cons_self)
  have e := hfa.symm.trans (He.glo_ok X G (c0.fact 28 (f := .glo "law") rfl))
  cases e
  have b_is_integer := FunD.bindsN (ps := ["thing"]) F_is_integer fun _ _ _ _ _ _ us hl => match us, hl with | [_], _ => rfl
  have b_is_integer_within := FunD.bindsN (ps := ["thing", "low", "high"]) F_is_integer_within fun _ _ _ _ _ _ us hl => match us, hl with | [_, _, _], _ => rfl
  have b_is_row := FunD.bindsN (ps := ["thing"]) F_is_row fun _ _ _ _ _ _ us hl => match us, hl with | [_], _ => rfl
  have b_BadNumber_init_ := FunD.bindsN (ps := ["self", "number"]) F_BadNumber_init_ fun _ _ _ _ _ _ us hl => match us, hl with | [_, _], _ => rfl
  have b_Net_init_ := FunD.bindsN (ps := ["self", "chars", "follow", "exits"]) F_Net_init_ fun _ _ _ _ _ _ us hl => match us, hl with | [_, _, _, _], _ => rfl
  have b_places_by_char := FunD.bindsN (ps := ["chars"]) F_places_by_char fun _ _ _ _ _ _ us hl => match us, hl with | [_], _ => rfl
  have b_place_count := FunD.bindsN (ps := ["least", "most"]) F_place_count fun _ _ _ _ _ _ us hl => match us, hl with | [_, _], _ => rfl
  have b_run_net := FunD.bindsN (ps := ["signs", "least", "most"]) F_run_net fun _ _ _ _ _ _ us hl => match us, hl with | [_, _, _], _ => rfl
  have b_renumbered := FunD.bindsN (ps := ["places", "shift"]) F_renumbered fun _ _ _ _ _ _ us hl => match us, hl with | [_, _], _ => rfl
  have b_chained := FunD.bindsN (ps := ["nets"]) F_chained fun _ _ _ _ _ _ us hl => match us, hl with | [_], _ => rfl
  have b_side_by_side := FunD.bindsN (ps := ["nets"]) F_side_by_side fun _ _ _ _ _ _ us hl => match us, hl with | [_], _ => rfl
  have b_is_sign_text := FunD.bindsN (ps := ["thing"]) F_is_sign_text fun _ _ _ _ _ _ us hl => match us, hl with | [_], _ => rfl
  have b_is_signs := FunD.bindsN (ps := ["thing"]) F_is_signs fun _ _ _ _ _ _ us hl => match us, hl with | [_], _ => rfl
  have b_signs_of := FunD.bindsN (ps := ["thing"]) F_signs_of fun _ _ _ _ _ _ us hl => match us, hl with | [_], _ => rfl
  have b_Kind_init_ := FunD.bindsN (ps := ["self", "rows"]) F_Kind_init_ fun _ _ _ _ _ _ us hl => match us, hl with | [_, _], _ => rfl
  have b_Kind_add_ := FunD.bindsN (ps := ["self", "other"]) F_Kind_add_ fun _ _ _ _ _ _ us hl => match us, hl with | [_, _], _ => rfl
  have b_Kind_mul_ := FunD.bindsN (ps := ["self", "other"]) F_Kind_mul_ fun _ _ _ _ _ _ us hl => match us, hl with | [_, _], _ => rfl
  have b_Kind_rmul_ := FunD.bindsN (ps := ["self", "other"]) F_Kind_rmul_ fun _ _ _ _ _ _ us hl => match us, hl with | [_, _], _ => rfl
  have b_Kindalternatives := FunD.bindsN (ps := ["self"]) F_Kindalternatives fun _ _ _ _ _ _ us hl => match us, hl with | [_], _ => rfl
  have b_are_bounds := FunD.bindsN (ps := ["least", "most"]) F_are_bounds fun _ _ _ _ _ _ us hl => match us, hl with | [_, _], _ => rfl
  have b_is_short_text := FunD.bindsN (ps := ["thing"]) F_is_short_text fun _ _ _ _ _ _ us hl => match us, hl with | [_], _ => rfl
  have b_without_repeats := FunD.bindsN (ps := ["rows"]) F_without_repeats fun _ _ _ _ _ _ us hl => match us, hl with | [_], _ => rfl
  have b_is_too_large := FunD.bindsN (ps := ["rows"]) F_is_too_large fun _ _ _ _ _ _ us hl => match us, hl with | [_], _ => rfl
  have b_alternative_net := FunD.bindsN (ps := ["row"]) F_alternative_net fun _ _ _ _ _ _ us hl => match us, hl with | [_], _ => rfl
  have b_l_bag := FunD.bindsN (ps := ["_law_script"]) F_l_bag fun _ _ _ _ _ _ us hl => match us, hl with | [_], _ => rfl
  have b_l_draw := FunD.bindsN (ps := ["_law_bag_here", "_law_limit"]) F_l_draw fun _ _ _ _ _ _ us hl => match us, hl with | [_, _], _ => rfl
  have b_l_alphabet := FunD.bindsN (ps := []) F_l_alphabet fun _ _ _ _ _ _ us hl => match us, hl with | [], _ => rfl
  have b_l_letters := FunD.bindsN (ps := ["_law_bag_here", "_law_many"]) F_l_letters fun _ _ _ _ _ _ us hl => match us, hl with | [_, _], _ => rfl
  have b_l_is_integer := FunD.bindsN (ps := ["_law_thing"]) F_l_is_integer fun _ _ _ _ _ _ us hl => match us, hl with | [_], _ => rfl
  have b_l_run_told := FunD.bindsN (ps := ["_law_shown", "_law_low", "_law_top"]) F_l_run_told fun _ _ _ _ _ _ us hl => match us, hl with | [_, _, _], _ => rfl
  have b_l_words_told := FunD.bindsN (ps := ["_law_given_row"]) F_l_words_told fun _ _ _ _ _ _ us hl => match us, hl with | [_], _ => rfl
  have b_l_times_refused := FunD.bindsN (ps := ["_law_kind", "_law_times"]) F_l_times_refused fun _ _ _ _ _ _ us hl => match us, hl with | [_, _], _ => rfl
  have b_l_bound := FunD.bindsN (ps := ["_law_bag_here"]) F_l_bound fun _ _ _ _ _ _ us hl => match us, hl with | [_], _ => rfl
  have b_l_run_due := FunD.bindsN (ps := ["_law_given", "_law_low", "_law_top"]) F_l_run_due fun _ _ _ _ _ _ us hl => match us, hl with | [_, _, _], _ => rfl
  have b_l_bad_words := FunD.bindsN (ps := ["_law_bag_here", "_law_letters_here"]) F_l_bad_words fun _ _ _ _ _ _ us hl => match us, hl with | [_, _], _ => rfl
  have b_Kindwords := FunD.bindsN (ps := ["texts"]) F_Kindwords fun _ _ _ _ _ _ us hl => match us, hl with | [_], _ => rfl
  have bI1 := FunD.binds1 (ps := ["self", "text"]) F_Signs_init_ 2 1 (by intro z; cases z) rfl fun _ _ _ _ _ _ _ us its hu hi => match us, its, hu, hi with | [_, _], [_], _, _ => ⟨_, rfl, rfl⟩
  have bI0 := FunD.binds1 (ps := ["self", "text"]) F_Signs_init_ 1 0 (by intro z; cases z) rfl fun _ _ _ _ _ _ _ us its hu hi => match us, its, hu, hi with | [_], [_], _, _ => ⟨_, rfl, rfl⟩
  have bR3 := FunD.binds1 (ps := ["signs", "least", "most"]) F_Kindrun 3 2 (by intro z; cases z) rfl fun _ _ _ _ _ _ _ us its hu hi => match us, its, hu, hi with | [_, _, _], [_, _], _, _ => ⟨_, rfl, rfl⟩
  have bR2 := FunD.binds1 (ps := ["signs", "least", "most"]) F_Kindrun 2 1 (by intro z; cases z) rfl fun _ _ _ _ _ _ _ us its hu hi => match us, its, hu, hi with | [_, _], [_, _], _, _ => ⟨_, rfl, rfl⟩
  have bR1 := FunD.binds1 (ps := ["signs", "least", "most"]) F_Kindrun 1 0 (by intro z; cases z) rfl fun _ _ _ _ _ _ _ us its hu hi => match us, its, hu, hi with | [_], [_, _], _, _ => ⟨_, rfl, rfl⟩
  have bRk := kbn_of (ps := ["signs", "least", "most"]) F_Kindrun 1 1 ["most"] (by intro z; cases z) fun _ _ _ _ _ _ _ us its ws hu hi hw => match us, its, ws, hu, hi, hw with | [_], [_, _], [_], _, _, _ => ⟨_, rfl, rfl⟩
  obtain ⟨x0, x1⟩ := He.ba hex
  obtain ⟨x0, x2⟩ := He.ba x0
  obtain ⟨x3, x4⟩ := He.ba x0
  obtain ⟨x5, x6⟩ := He.ba x2
  have SeS := seesB_ok x3
  have SeK := seesB_ok x4
  have Ap := apartB_ok x5
  have Er := errsB_ok x1
  have N : Nms mg := ⟨(He.free_ok X G (c0.fact 60 (f := .free "isinstance") rfl)), (He.free_ok X G (c0.fact 61 (f := .free "int") rfl)), (He.free_ok X G (c0.fact 62 (f := .free "bool") rfl)), (He.free_ok X G (c0.fact 63 (f := .free "list") rfl)), (He.free_ok X G (c0.fact 64 (f := .free "tuple") rfl)), (He.free_ok X G (c0.fact 65 (f := .free "str") rfl)), (He.free_ok X G (c0.fact 66 (f := .free "all") rfl)), (He.free_ok X G (c0.fact 67 (f := .free "any") rfl)), (He.free_ok X G (c0.fact 68 (f := .free "sum") rfl)), (He.free_ok X G (c0.fact 69 (f := .free "len") rfl)), (He.free_ok X G (c0.fact 70 (f := .free "enumerate") rfl)), (He.free_ok X G (c0.fact 71 (f := .free "range") rfl)), (He.free_ok X G (c0.fact 72 (f := .free "max") rfl)), (He.free_ok X G (c0.fact 73 (f := .free "sorted") rfl))⟩
  have Co : Cons mg := ⟨(He.int_ok X G (c0.fact 74 (f := .int "START" 1) rfl)), (He.int_ok X G (c0.fact 75 (f := .int "MOST_ALTERNATIVES" 20) rfl)), (He.int_ok X G (c0.fact 76 (f := .int "MOST_RUNS" 20) rfl)), (He.int_ok X G (c0.fact 77 (f := .int "MOST_PLACES" 120) rfl)), (He.int_ok X G (c0.fact 78 (f := .int "MOST_TEXTS" 20) rfl)), (He.int_ok X G (c0.fact 79 (f := .int "LONGEST_TEXT" 20) rfl)), (He.int_ok X G (c0.fact 80 (f := .int "HIGHEST_BOUND" 40) rfl)), (He.int_ok X G (c0.fact 81 (f := .int "MOST_OPERANDS" 9) rfl))⟩
  obtain ⟨tS, gS⟩ := He.str_ok X G (c0.fact 82 (f := .str "SIGNS" " !\"#$&'()*+,-./0123456789:;<=>?@ABCDEFGHIJKLMNOPQRSTUVWXYZ[\\]^_`abcdefghijklmnopqrstuvwxyz{|}~") rfl)
  have eS : mg ("SIGNS" : Str) = some (.str (tx alpha) tS) := gS.trans (congrArg (fun z => some (Value.str z tS)) (by decide +kernel))
  have T : Txt K mg (He.ga K "Signs") := { cl := He.cls_ok (c0.fact 30 (f := .cls "Signs") rfl), nS := (He.noat_ok (c0.fact 33 (f := .noat "Signs" "signs") rfl)), gC := (He.glo_ok X G (c0.fact 29 (f := .glo "Signs") rfl)), sgn := ⟨tS, eS⟩, kStr := Ap.no _ (by decide), kOwn := Ap.own, sStr := Ap.off _ (by decide), c1 := SeS.c1, c2 := SeS.c2, c3 := SeS.c3, c4 := SeS.c4 }
  have TN : NetC K (He.ga K "Net") := ⟨He.cls_ok (c0.fact 35 (f := .cls "Net") rfl), (He.noat_ok (c0.fact 38 (f := .noat "Net" "chars") rfl)), (He.noat_ok (c0.fact 39 (f := .noat "Net" "follow") rfl)), (He.noat_ok (c0.fact 40 (f := .noat "Net" "exits") rfl)), (He.noat_ok (c0.fact 41 (f := .noat "Net" "stands_for") rfl))⟩
  have TK : KindC K (He.ga K "Kind") := ⟨He.cls_ok (c0.fact 43 (f := .cls "Kind") rfl), (He.noat_ok (c0.fact 50 (f := .noat "Kind" "rows") rfl)), (He.noat_ok (c0.fact 51 (f := .noat "Kind" "net") rfl))⟩
  have gK := (He.glo_ok X G (c0.fact 42 (f := .glo "Kind") rfl))
  have gBK := (He.glo_ok X G (c0.fact 58 (f := .glo "BadKind") rfl))
  have gBN := (He.glo_ok X G (c0.fact 52 (f := .glo "BadNumber") rfl))
  have gT := (He.glo_ok X G (c0.fact 55 (f := .glo "TownError") rfl))
  have PB : Plain K mg "BadKind" (He.ga K "BadKind") := by
    obtain ⟨z1, z2, z3, z4⟩ := He.exc_ok (c0.fact 59 (f := .exc "BadKind") rfl)
    exact ⟨gBK, z1, z2, z3, z4⟩
  have noN := He.noat_ok (c0.fact 54 (f := .noat "BadNumber" "number") rfl)
  have MI := He.mkr_ok (c0.fact 31 (f := .mkr "Signs") rfl)
  have MN := He.mkr_ok (c0.fact 36 (f := .mkr "Net") rfl)
  have MK := He.mkr_ok (c0.fact 44 (f := .mkr "Kind") rfl)
  have mMul := (He.meth_ok (c0.fact 47 (f := .meth "Kind" "__mul__") rfl))
  have mRmul := (He.meth_ok (c0.fact 48 (f := .meth "Kind" "__rmul__") rfl))
  refine ⟨e_law, fun s v => FunD.bindsA (ps := ["_law_script"]) F_law (fun _ _ _ _ _ _ us hl => match us, hl with | [_], _ => rfl) s [v] rfl, fun base _ _ => ?_⟩
  have c_is_integer : Can P w K mg base CX0 "is_integer" ["thing"] 1 (spIsInt K) := ⟨_, e_is_integer, ok_is_integer F_is_integer N, (He.glo_ok X G (c0.fact 0 (f := .glo "is_integer") rfl)), F_is_integer.kp, b_is_integer⟩
  have c_is_integer_within : Can P w K mg base CX0 "is_integer_within" ["thing", "low", "high"] 2 (spWithin K) := ⟨_, e_is_integer_within, ok_within F_is_integer_within c_is_integer, (He.glo_ok X G (c0.fact 1 (f := .glo "is_integer_within") rfl)), F_is_integer_within.kp, b_is_integer_within⟩
  have c_is_row : Can P w K mg base CX0 "is_row" ["thing"] 1 (spRow K) := ⟨_, e_is_row, ok_row F_is_row N, (He.glo_ok X G (c0.fact 2 (f := .glo "is_row") rfl)), F_is_row.kp, b_is_row⟩
  have c_place_count : Can P w K mg base CX0 "place_count" ["least", "most"] 1 spPc := ⟨_, e_place_count, ok_place_count F_place_count N, (He.glo_ok X G (c0.fact 4 (f := .glo "place_count") rfl)), F_place_count.kp, b_place_count⟩
  have c_renumbered : Can P w K mg base CX0 "renumbered" ["places", "shift"] 1 spRen := ⟨_, e_renumbered, ok_ren F_renumbered Co.start, (He.glo_ok X G (c0.fact 6 (f := .glo "renumbered") rfl)), F_renumbered.kp, b_renumbered⟩
  have c_places_by_char : Can P w K mg base CX0 "places_by_char" ["chars"] 1 spPbc := ⟨_, e_places_by_char, ok_pbc F_places_by_char N, (He.glo_ok X G (c0.fact 3 (f := .glo "places_by_char") rfl)), F_places_by_char.kp, b_places_by_char⟩
  have cNet : CanNet P w K mg base (He.ga K "Net") 2 := ok_net_init F_Net_init_ TN MN (He.glo_ok X G (c0.fact 34 (f := .glo "Net") rfl)) b_Net_init_ c_places_by_char
  have c_run_net : Can P w K mg base CX0 "run_net" ["signs", "least", "most"] 4 (spRunNet (He.ga K "Net")) := ⟨_, e_run_net, ok_run_net F_run_net N c_place_count cNet, (He.glo_ok X G (c0.fact 5 (f := .glo "run_net") rfl)), F_run_net.kp, b_run_net⟩
  have c_chained : Can P w K mg base CX0 "chained" ["nets"] 4 (spNets (He.ga K "Net") chainL) := ⟨_, e_chained, ok_chained F_chained N Co.start TN c_renumbered cNet, (He.glo_ok X G (c0.fact 7 (f := .glo "chained") rfl)), F_chained.kp, b_chained⟩
  have c_side_by_side : Can P w K mg base CX0 "side_by_side" ["nets"] 4 (spNets (He.ga K "Net") sideL) := ⟨_, e_side_by_side, ok_side F_side_by_side N TN c_renumbered cNet, (He.glo_ok X G (c0.fact 8 (f := .glo "side_by_side") rfl)), F_side_by_side.kp, b_side_by_side⟩
  have c_alternative_net : Can P w K mg base CX0 "alternative_net" ["row"] 5 (spAlt (He.ga K "Net")) := ⟨_, e_alternative_net, ok_alt F_alternative_net c_chained c_run_net, (He.glo_ok X G (c0.fact 16 (f := .glo "alternative_net") rfl)), F_alternative_net.kp, b_alternative_net⟩
  have c_without_repeats : Can P w K mg base CX0 "without_repeats" ["rows"] 1 spWr := ⟨_, e_without_repeats, ok_without F_without_repeats N, (He.glo_ok X G (c0.fact 14 (f := .glo "without_repeats") rfl)), F_without_repeats.kp, b_without_repeats⟩
  have c_is_too_large : Can P w K mg base CX0 "is_too_large" ["rows"] 2 spToo := ⟨_, e_is_too_large, ok_too F_is_too_large N Co c_place_count, (He.glo_ok X G (c0.fact 15 (f := .glo "is_too_large") rfl)), F_is_too_large.kp, b_is_too_large⟩
  have c_is_sign_text : Can P w K mg base CX0 "is_sign_text" ["thing"] 1 (spTextA K (He.ga K "Signs")) := ⟨_, e_is_sign_text, ok_is_sign_text F_is_sign_text T N, (He.glo_ok X G (c0.fact 9 (f := .glo "is_sign_text") rfl)), F_is_sign_text.kp, b_is_sign_text⟩
  have c_is_signs : Can P w K mg base CX0 "is_signs" ["thing"] 2 (spSigns K (He.ga K "Signs")) := ⟨_, e_is_signs, ok_is_signs F_is_signs T N c_is_sign_text, (He.glo_ok X G (c0.fact 10 (f := .glo "is_signs") rfl)), F_is_signs.kp, b_is_signs⟩
  have cMk : CanMk P w K mg base (He.ga K "Signs") := by
    obtain ⟨fT, fdT, GT, gT, kT, bT⟩ := c_is_sign_text
    obtain ⟨d1, v1, b1⟩ := bI1
    obtain ⟨d0, v0, b0⟩ := bI0
    have e1 : d1 = [] := by cases v1; rfl
    subst e1
    exact ⟨_, e_Signs_init_, MI, ok_init F_Signs_init_ T GT gT kT bT, b1, d0, v0, b0⟩
  have c_signs_of : Can P w K mg base CX0 "signs_of" ["thing"] 4 (spOf (He.ga K "Signs")) := ⟨_, e_signs_of, ok_signs_of F_signs_of T N cMk, (He.glo_ok X G (c0.fact 11 (f := .glo "signs_of") rfl)), F_signs_of.kp, b_signs_of⟩
  have c_are_bounds : Can P w K mg base CX0 "are_bounds" ["least", "most"] 3 (spBounds K) := ⟨_, e_are_bounds, ok_bounds F_are_bounds Co c_is_integer_within, (He.glo_ok X G (c0.fact 12 (f := .glo "are_bounds") rfl)), F_are_bounds.kp, b_are_bounds⟩
  have c_is_short_text : Can P w K mg base CX0 "is_short_text" ["thing"] 2 (spShort K (He.ga K "Signs")) := ⟨_, e_is_short_text, ok_short F_is_short_text N Co c_is_sign_text, (He.glo_ok X G (c0.fact 13 (f := .glo "is_short_text") rfl)), F_is_short_text.kp, b_is_short_text⟩
  have cKind : CanKind P w K mg base (He.ga K "Net") (He.ga K "Kind") (He.ga K "BadKind") := ⟨_, e_Kind_init_, MK, gK, b_Kind_init_, ok_kinit F_Kind_init_ TK PB c_without_repeats c_is_too_large c_side_by_side c_alternative_net⟩
  have gRun := ok_run F_Kindrun PB cKind c_is_signs c_are_bounds c_signs_of
  have gWords := ok_words (C := (He.ga K "Signs")) F_Kindwords N Co PB c_is_row c_is_short_text
  have gAlts := ok_alts (P := P) (w := w) (mg := mg) (base := base) F_Kindalternatives TK
  have mA := (He.meth_ok (c0.fact 49 (f := .meth "Kind" "alternatives") rfl))
  have MB := He.meth_ok (c0.fact 53 (f := .meth "BadNumber" "__init__") rfl)
  have PN : Ini P w K mg base "BadNumber" "number" (He.ga K "BadNumber") := ⟨gBN, Er.oB, _, e_BadNumber_init_, ok_BadNumber F_BadNumber_init_ Er.oB noN, MB.at_, beq_iff_eq.mp MB.fn, b_BadNumber_init_⟩
  have MC := mulB_ok (K := K) (C := (He.ga K "Kind")) x6 ⟨mMul.at_, mMul.fn⟩ ⟨mRmul.at_, mRmul.fn⟩
  have gMul := ok_mul F_Kind_mul_ Co PN c_is_integer_within
  have gRmul := ok_rmul F_Kind_rmul_ gMul b_Kind_mul_ MC
  have c_l_bag : Can P w K mg base CX0 "_law_bag" ["_law_script"] 1 (spBag K) := ⟨_, e_l_bag, ok_bag F_l_bag N.list, (He.glo_ok X G (c0.fact 17 (f := .glo "_law_bag") rfl)), F_l_bag.kp, b_l_bag⟩
  have c_l_draw : Can P w K mg base CX0 "_law_draw" ["_law_bag_here", "_law_limit"] 1 spDraw := ⟨_, e_l_draw, ok_draw F_l_draw N.len N.int, (He.glo_ok X G (c0.fact 18 (f := .glo "_law_draw") rfl)), F_l_draw.kp, b_l_draw⟩
  have c_l_alphabet : Can P w K mg base CX0 "_law_alphabet" [] 1 spAlpha := ⟨_, e_l_alphabet, ok_alpha F_l_alphabet, (He.glo_ok X G (c0.fact 19 (f := .glo "_law_alphabet") rfl)), F_l_alphabet.kp, b_l_alphabet⟩
  have c_l_letters : Can P w K mg base CX0 "_law_letters" ["_law_bag_here", "_law_many"] 2 spLetters := by
    obtain ⟨fA, fdA, GA, gA, kA, bA⟩ := c_l_alphabet
    obtain ⟨fD, fdD, GD, gD, kD, bD⟩ := c_l_draw
    exact ⟨_, e_l_letters, ok_letters F_l_letters N.list N.len N.range GA gA kA bA GD gD kD bD, (He.glo_ok X G (c0.fact 20 (f := .glo "_law_letters") rfl)), F_l_letters.kp, b_l_letters⟩
  have c_l_is_integer : Can P w K mg base CX0 "_law_is_integer" ["_law_thing"] 1 (spIsInt K) := ⟨_, e_l_is_integer, ok_l_int F_l_is_integer N, (He.glo_ok X G (c0.fact 21 (f := .glo "_law_is_integer") rfl)), F_l_is_integer.kp, b_l_is_integer⟩
  have c_l_bound : Can P w K mg base CX0 "_law_bound" ["_law_bag_here"] 2 spBound := ⟨_, e_l_bound, ok_l_bound F_l_bound c_l_draw, (He.glo_ok X G (c0.fact 25 (f := .glo "_law_bound") rfl)), F_l_bound.kp, b_l_bound⟩
  have c_l_run_due : Can P w K mg base CX0 "_law_run_due" ["_law_given", "_law_low", "_law_top"] 2 (spDue K) := ⟨_, e_l_run_due, ok_due F_l_run_due c_l_is_integer, (He.glo_ok X G (c0.fact 26 (f := .glo "_law_run_due") rfl)), F_l_run_due.kp, b_l_run_due⟩
  have c_l_bad_words : Can P w K mg base CX0 "_law_bad_words" ["_law_bag_here", "_law_letters_here"] 2 (spBadWords K (He.ga K "Signs")) := ⟨_, e_l_bad_words, ok_bad_words F_l_bad_words N Ap c_l_draw, (He.glo_ok X G (c0.fact 27 (f := .glo "_law_bad_words") rfl)), F_l_bad_words.kp, b_l_bad_words⟩
  obtain ⟨d3, v3, b3⟩ := bR3
  have e3 : d3 = [] := by cases v3; rfl
  subst e3
  obtain ⟨d2, v2, b2⟩ := bR2
  obtain ⟨d1, v1, b1⟩ := bR1
  obtain ⟨its, kb⟩ := bRk
  have c_l_run_told : Can P w K mg base CX0 "_law_run_told" ["_law_shown", "_law_low", "_law_top"] 9 (spTold K (He.ga K "Signs")) := ⟨_, e_l_run_told, ok_told F_l_run_told N gK gBK gT Er TK SR gRun b3 mA gAlts b_Kindalternatives, (He.glo_ok X G (c0.fact 22 (f := .glo "_law_run_told") rfl)), F_l_run_told.kp, b_l_run_told⟩
  have c_l_words_told : Can P w K mg base CX0 "_law_words_told" ["_law_given_row"] 4 (spWTold K (He.ga K "Signs")) := ⟨_, e_l_words_told, ok_wtold F_l_words_told N (He.free_ok X G (c0.fact 83 (f := .free "ValueError") rfl)) gK gBK Er TK SW gWords b_Kindwords mA gAlts b_Kindalternatives, (He.glo_ok X G (c0.fact 23 (f := .glo "_law_words_told") rfl)), F_l_words_told.kp, b_l_words_told⟩
  have c_l_times_refused : Can P w K mg base CX0 "_law_times_refused" ["_law_kind", "_law_times"] 5 (spTimes (He.ga K "Kind")) := ⟨_, e_l_times_refused, ok_times F_l_times_refused N gBN noN Er gMul b_Kind_mul_ gRmul b_Kind_rmul_ MC, (He.glo_ok X G (c0.fact 24 (f := .glo "_law_times_refused") rfl)), F_l_times_refused.kp, b_l_times_refused⟩
  exact ok_law F_law N T TK gK SeS SeK Ap ⟨c_l_bag, c_l_draw, c_l_letters, c_l_bound, c_l_run_told, c_l_run_due, c_l_words_told, c_l_bad_words, c_l_times_refused, cMk, ⟨_, _, mA, gAlts, b_Kindalternatives⟩, ⟨_, _, d2, d1, _, SR, gRun, v1, b1, v2, b2, kb⟩⟩
end K06
open PySem PySem.W PySem.Calls PyProof.Rows
set_option maxRecDepth 100000 in
set_option maxHeartbeats 0 in
theorem PySem.Challenge.cw_townlines_k06_kinds_refuse_holds : PySem.Challenge.rw_townlines_k06_kinds_refuse.Holds := by
  w_on; o_law
  refine HandSHeadRun.head_any (r := OpenLaw.row PySem.Challenge.rw_townlines_k06_kinds_refuse) (q := view (OpenLaw.row PySem.Challenge.rw_townlines_k06_kinds_refuse).prog [61]) (H := K06.hk) (ob := K06.ob) (M := 60000) (loose := K06.loose) (d := HandSHeadRun.topDef (OpenLaw.row PySem.Challenge.rw_townlines_k06_kinds_refuse).prog 61) (kwd := []) K06.ob_eq
    (by kernel_rfl) (fun s => by kernel_rfl) K06.run (by kernel_rfl) (by kernel_rfl) (by kernel_rfl) (by rfl) (by first | assumption | decide +kernel) (by decide +kernel) ⟨rfl, rfl, rfl, rfl, rfl, by decide +kernel⟩ ?hw ?hc
  case hw => w_witness2
  case hc =>
    refine L2.walk_ofE (l := PySem.Challenge.rw_townlines_k06_kinds_refuse) (n := 63) (k := 10) (x := "_law_script") (CX := L2.CX0) rfl (by decide) (by kernel_rfl) ⟨rfl, by decide, by decide⟩ ?F (fun _ _ _ _ z => z)
    intro w mg fa h Y G hmg0
    obtain ⟨K, KX, c⟩ := Y
    have hmg : mg ("law" : PySem.Str) = some (.ref fa) := by
      have e : (HandSHeadRun.topDef (OpenLaw.row PySem.Challenge.rw_townlines_k06_kinds_refuse).prog 61).name = ("law" : PySem.Str) := by kernel_rfl
      rw [← e]
      exact hmg0
    obtain ⟨fd, hb, hF⟩ := K06.facts (P := (PySem.Challenge.rw_townlines_k06_kinds_refuse).prog) (w := w) KX G hmg c
    exact ⟨K, fd, K06.spLaw K, KX, hb, fun H a ns hl _ hS => ⟨a, ns, rfl, hS, hl, fun _ => rfl⟩, hF⟩

