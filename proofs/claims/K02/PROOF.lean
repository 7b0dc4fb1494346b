import PyProof.Rows.All
import Wide.All
import OpenK.AllK
import Wide.FinOn
import HandS.ForMost
import HandS.ForExc
import HandS.ExcOwn
import HandS.ExcCtx
import HandS.Defaults
import HandS.HeadHook1
import HandS.HeadHook2
import HandS.HeadHook3
import HandS.HeadHook4
import HandS.Property
import HandS.IsInst
import KE.KOpsOwn
import KE.KxMul
import KE.KIsAll
import KE.KTryMore
import HandS.ExcInit
import HandS.ExcIs
import HandS.HotCalls
import HandS.ExcField
import KE.KExcIs
import HandS.Iter
import PyProof.FactsAll.int_1
import PyProof.FactsAll.int_3
import PyProof.FactsAll.int_5
import PyProof.FactsAll.bool_1
import PyProof.FactsAll.bool_2
import PyProof.FactsAll.bool_3
import PyProof.FactsAll.dict_2
import KE.KStateDown
import HandS.Head0
import HandS.Head1
import HandS.Head2
import HandS.HeadEnd
import PyProof.StrBlock2
import HandS.Wide
import HandS.Codes
import HandS.Walk
import HandS.WideBits
import HandS.Text
import HandS.Records
import HandS.Comp
import HandS.Dict
import HandS.DictComp
import KE.KDictKeyed
import KE.KeyNested
import KE.KDictSum
import KE.KDictCopyH
import HandS.RevTup
import PyProof.MeetsIn
import PyProof.Rows.StrBool
import HandS.CallSlots
import HandS.SortKw
import KE.KMinKey
import KE.DatumOrd
import KE.GoesMore
import KE.GoesEnum
import HandS.TupLe
import PySem.Challenge.RW_townlines_k02_signs_refuse
set_option Elab.async false
set_option linter.all false
set_option maxRecDepth 100000
set_option maxHeartbeats 8000000
set_option autoImplicit false
set_option maxErrors 4
/-! Static methods of own classes: what the head reads of them, C.m(..). -/
namespace Tl
open PySem PySem.Spec PyProof.Rows L2
/-- C.m is a staticmethod at p over the def at f -/
structure Stat (K : PySem.W.Frag) (C : Addr) (m : Str) (f : Addr) : Prop where
  ga : PySem.W.specialIn K (.ref C) "__getattribute__" = some (some (.builtin "type.__getattribute__"))
  ty : PySem.W.typeIn K (.ref C) = some (.type "type")
  rd : PySem.W.readsIn K C (.type "type") = true
  fd : ∃ (p : Addr) (rest : List Value), PySem.W.findCls K (.ref C) (.type "type") m = some (.get (.builtin "staticmethod.__get__") (.ref p) .none (.ref C)) ∧ PySem.W.recIn K p "staticmethod" = some (.ref f :: rest)
  kp : PySem.W.keepIn K (.ref f) = true
def statP : Option PySem.W.CFound → Option Addr
  | some (.get (.builtin g) (.ref p) .none _) => if g = "staticmethod.__get__" then some p else none
  | _ => none
/-- where the staticmethod, its def stand -/
def pAd (K : PySem.W.Frag) (C : Addr) (m : Str) : Addr := (statP (PySem.W.findCls K (.ref C) (.type "type") m)).getD 0
def recF : Option (List Value) → Option Addr
  | some (.ref f :: _) => some f
  | _ => none
def sAd (K : PySem.W.Frag) (C : Addr) (m : Str) : Addr := (recF (PySem.W.recIn K (pAd K C m) "staticmethod")).getD 0
def foundB (C : Addr) : Option PySem.W.CFound → Bool
  | some (.get (.builtin g) (.ref _) .none (.ref D)) => decide (g = "staticmethod.__get__") && decide (D = C)
  | _ => false
def recB : Option (List Value) → Bool
  | some (.ref _ :: _) => true
  | _ => false
def statB (K : PySem.W.Frag) (C : Addr) (m : Str) : Bool := He.eqO (PySem.W.specialIn K (.ref C) "__getattribute__") (some (some (.builtin "type.__getattribute__"))) && (decide (PySem.W.typeIn K (.ref C) = some (.type "type")) && (PySem.W.readsIn K C (.type "type") &&
  (foundB C (PySem.W.findCls K (.ref C) (.type "type") m) && (recB (PySem.W.recIn K (pAd K C m) "staticmethod") && PySem.W.keepIn K (.ref (sAd K C m))))))
theorem foundB_ok {C : Addr} {r : Option PySem.W.CFound} (h : foundB C r = true) : r = some (.get (.builtin "staticmethod.__get__") (.ref ((statP r).getD 0)) .none (.ref C)) := by
  unfold foundB at h
  split at h
  · rename_i g p D
    obtain ⟨h1, h2⟩ := He.ba h
    have e1 := of_decide_eq_true h1
    have e2 := of_decide_eq_true h2
    rw [e1, e2]
    show _ = some (PySem.W.CFound.get _ (.ref ((if ("staticmethod.__get__" : String) = "staticmethod.__get__" then some p else none).getD 0)) _ _)
    rw [if_pos rfl]
    rfl
  · cases h
theorem recB_ok {r : Option (List Value)} (h : recB r = true) : ∃ rest, r = some (.ref ((recF r).getD 0) :: rest) := by
  unfold recB at h
  split at h
  · exact ⟨_, rfl⟩
  · cases h
theorem statB_ok {K : PySem.W.Frag} {C : Addr} {m : Str} (h : statB K C m = true) : Stat K C m (sAd K C m) := by
  obtain ⟨a1, h⟩ := He.ba h
  obtain ⟨a2, h⟩ := He.ba h
  obtain ⟨a3, h⟩ := He.ba h
  obtain ⟨a4, h⟩ := He.ba h
  obtain ⟨a5, a6⟩ := He.ba h
  obtain ⟨rest, e⟩ := recB_ok a5
  exact ⟨He.eqO_ok a1, of_decide_eq_true a2, a3, ⟨pAd K C m, rest, foundB_ok a4, e⟩, a6⟩
/-! ### the Hook: as the library's by one more list of defs, looked for by an address of one's own -/
structure StD where
  cls : Str
  meth : Str
  d : He.DefD
def StD.ad (K : PySem.W.Frag) (x : StD) : Addr := sAd K (He.ga K x.cls) x.meth
def stW (K : PySem.W.Frag) (x : StD) : He.FnW := match K.lookup (x.ad K) with
  | some ⟨_, _, .func fd, _⟩ => some (fd.name, fd.qualname, fd.params, fd.body, fd.scope, fd.globals, fd.closure, fd.builtins)
  | _ => none
def StD.ok (K : PySem.W.Frag) (x : StD) : Bool := statB K (He.ga K x.cls) x.meth && (match K.lookup (x.ad K) with
  | some ⟨_, _, .func fd, _⟩ => PySem.W.codeIn K fd.code x.d.qual && (He.dflB K fd.defaults (x.d.dvs K) && He.kwdB K fd.kwdefaults (x.d.kws K))
  | _ => false)
theorem StD.funD {K : PySem.W.Frag} {x : StD} (e : stW K x = x.d.val) (c : x.ok K = true) : Stat K (He.ga K x.cls) x.meth (x.ad K) ∧ ∃ fd, FunD K x.d.name x.d.qual x.d.params x.d.body x.d.scope (x.d.dvs K) (x.d.kws K) (x.ad K) fd := by
  obtain ⟨st, c⟩ := He.ba c
  have S := statB_ok st
  refine ⟨S, ?_⟩
  unfold stW at e
  cases look : K.lookup (x.ad K) with
  | none =>
    rw [look] at c
    cases c
  | some ob =>
    obtain ⟨oc, od, dt, sl⟩ := ob
    rw [look] at c e
    cases dt with
    | func fd =>
      obtain ⟨f1, f2, f3, f4, f5, f6, f7, f8, f9, f10, f11, f12, f13, f14, f15⟩ := fd
      have same : (some (f1, f2, f3, f4, f5, f6, f7, f15) : He.FnW) = some (x.d.name, x.d.qual, x.d.params, .stmts x.d.body, x.d.scope, mainGlobals, [], builtinsNs) := e
      simp only [Option.some.injEq, Prod.mk.injEq] at same
      obtain ⟨i1, i2, i3, i4, i5, i6, i7, i8⟩ := same
      subst i1 i2 i3 i4 i5 i6 i7 i8
      have all : (PySem.W.codeIn K f13 x.d.qual && (He.dflB K f8 (x.d.dvs K) && He.kwdB K f9 (x.d.kws K))) = true := c
      obtain ⟨j1, all⟩ := He.ba all
      obtain ⟨j2, j3⟩ := He.ba all
      exact ⟨_, ⟨oc, od, f8, f9, f10, f11, f12, f13, f14, sl, rfl, look, j1, He.dflB_ok j2, He.kwdB_ok j3⟩, S.kp⟩
    | _ => cases c
abbrev AlS : Type := (He.AlD × Bool) × List He.FnW
def obsS (n : Nat) (fa : List He.Fa) (fn : List He.DefD) (sd : List StD) (ex : PySem.W.Frag → Bool) (g : Addr → Option Obj) : AlS :=
  ((He.obsD fa fn (He.frT g (cStatics :: He.asD g n)), ex (He.frT g (cStatics :: He.asD g n)) && sd.all fun x => x.ok (He.frT g (cStatics :: He.asD g n))), sd.map fun x => stW (He.frT g (cStatics :: He.asD g n)) x)
def valS (fn : List He.DefD) (sd : List StD) : AlS := ((He.valD fn, true), sd.map fun x => x.d.val)
structure SaysS (fa : List He.Fa) (fn : List He.DefD) (sd : List StD) (ex : PySem.W.Frag → Bool) (K : PySem.W.Frag) : Prop where
  d : He.SaysD fa fn K
  more : ex K = true
  st : ∀ x ∈ sd, Stat K (He.ga K x.cls) x.meth (x.ad K) ∧ ∃ fd, FunD K x.d.name x.d.qual x.d.params x.d.body x.d.scope (x.d.dvs K) (x.d.kws K) (x.ad K) fd
theorem saysS_of {fa : List He.Fa} {fn : List He.DefD} {sd : List StD} {ex : PySem.W.Frag → Bool} {K : PySem.W.Frag} (e : (((He.obsD fa fn K, ex K && sd.all fun x => x.ok K), sd.map fun x => stW K x) : AlS) = valS fn sd) : SaysS fa fn sd ex K := by
  have e1 : He.obsD fa fn K = He.valD fn := congrArg (fun z : AlS => z.1.1) e
  have e2 : (ex K && sd.all fun x => x.ok K) = true := congrArg (fun z : AlS => z.1.2) e
  have e3 : (sd.map fun x => stW K x) = sd.map fun x => x.d.val := congrArg (fun z : AlS => z.2) e
  obtain ⟨a, b⟩ := He.ba e2
  refine ⟨e1, a, fun x hx => ?_⟩
  obtain ⟨i, hi, rfl⟩ := List.mem_iff_getElem.mp hx
  have e4 : (sd.map fun x => stW K x)[i]? = (sd.map fun x => x.d.val)[i]? := by rw [e3]
  rw [List.getElem?_map, List.getElem?_map, List.getElem?_eq_getElem hi] at e4
  exact StD.funD (Option.some.inj e4) (List.all_eq_true.mp b _ hx)
def hookS (n : Nat) (fa : List He.Fa) (fn : List He.DefD) (sd : List StD) (ex : PySem.W.Frag → Bool) : PySem.W.Hook where
  α := AlS
  obs := fun s => obsS n fa fn sd ex s.heap.get?
  val := fun _ => valS fn sd
  says := fun _ h => ∃ K : PySem.W.Frag, K.In h ∧ SaysS fa fn sd ex K
  of := fun _ _ e => ⟨_, He.frT_in, saysS_of e⟩
  keeps := fun _ _ _ ⟨K, hK, c⟩ k => ⟨K, PySem.W.Frag.In.keeps hK k, c⟩
theorem obsS_eq {n : Nat} {fa : List He.Fa} {fn : List He.DefD} {sd : List StD} {ex : PySem.W.Frag → Bool} {g : Addr → Option Obj} {s : Shared} (h : ∀ a, g a = s.heap.get? a) : obsS n fa fn sd ex g = (hookS n fa fn sd ex).obs s := by
  have e : g = s.heap.get? := funext h
  rw [e] <;> rfl
/-! ### C.m(..) -/
section
variable {X : Cx} {CX : CXT} {k : Nat} {f C : Addr} {fd : FuncData} {ps : List Str} {sp : Sp} {ds : List Value} {dvs : List V} {E : L2.St → XK} {x m : Str} {p1 p2 pos : Pos} {e : Expr} {es : List Expr} {t : TA}
def tStat (sp : Sp) (dvs : List V) (E : L2.St → XK) (t : TA) : TE := fun σ H Q => t σ H fun vs H1 => sp (vs ++ dvs) H1 Q (E σ)
theorem pe_stat {pl : Sem Bool} (S : Stat X.K C m f) (F : FnOk X.prog X.w X.K X.mg X.base CX k f fd ps sp) (hr : Room k X.A) (hg : Gl X x) (hm : X.mg x = some (.ref C)) (hb : Binds X.K fd ps ds) (hd : Vals dvs ds) (hx : ∀ σ, PassesAt CX X σ (E σ)) (ha : PA X (e :: es) t)
    (hdb : (x == ("__debug__" : Str)) = false := by decide) (hst : starEach (e :: es) X.env = (false, eval e X.env) :: starEach es X.env := by rfl) (hpl : (backTo pos (starEach es X.env)).any (·.1) = false := by rfl)
    (ht : eval (.Call (.Attribute (.Name x p1) m p2) (e :: es) [] pos) X.env = (do
      let ov ← eval (.Name x p1) X.env
      standAt p2.atName
      let (f, first) ← holding [ov] (getMethod ov m pl)
      callWith pos f first (backTo pos (starEach (e :: es) X.env)) (backToKw pos (keywordEach [] X.env))) := by rfl) :
    PE X (.Call (.Attribute (.Name x p1) m p2) (e :: es) [] pos) (tStat sp dvs E t) := by
  refine ⟨fun pins s σ H Q I h => PySem.W.methodCall_KW (pl := pl) (ld_glob I hg hm ?_ hdb) ht⟩
  obtain ⟨mm, fr⟩ := I.fr
  obtain ⟨p, rest, found, rc⟩ := S.fd
  refine PySem.W.method_of_cls fr I.ok.mod.kin S.ga (PySem.W.cls_sm fr I.ok.mod.kin S.ty S.rd found rc rfl ?_)
  refine PySem.W.callWith_K (first := []) (h₀ := X.base) I.ok.mod.kin S.kp (thn (ha.run pos pins _ σ H _ (I.tok _) h) fun us s1 ⟨vs, H1, I1, r, z⟩ => ⟨I1.kIn, ?_⟩) hst hpl
  have n : (us ++ ds).length = ps.length := by
    rw [← F.len _ _ _ _ z, List.length_append, List.length_append, r.length, hd.length]
  have b := hb s1 us I1.kIn n
  refine wpAny_call (codeAny_mono (F.run X.A X.stack s1 H1 ⟨us, []⟩ (us ++ ds) (vs ++ dvs) Q (E σ) hr I1.env0 b (r.append hd) z) fun res s2 y => ?_)
  cases res with
  | error er => exact hx σ pins H1 s1 er s2 I1 y
  | ok fl =>
    cases fl with
    | ret u => exact I1.after y
    | next => exact y.elim
    | brk => exact y.elim
    | cont => exact y.elim
end
end Tl

set_option autoImplicit false
set_option maxErrors 4
/-! Properties of own classes: what the head reads of them. -/
namespace Tl
open PySem PySem.Spec PyProof.Rows L2
def prP : Option (Option Value) → Option Addr
  | some (some (.ref p)) => some p
  | _ => none
/-- where the property, its getter stand -/
def prA (K : PySem.W.Frag) (C : Addr) (f : Str) : Addr := (prP (PySem.W.findIn K (.ref C) f)).getD 0
def prG (K : PySem.W.Frag) (C : Addr) (f : Str) : Addr := (recF (PySem.W.recIn K (prA K C f) "property")).getD 0
def propB (K : PySem.W.Frag) (C : Addr) (f : Str) : Bool := ((match PySem.W.findIn K (.ref C) f with
    | some (some (.ref _)) => true
    | _ => false) && He.eqO (PySem.W.specialIn K (.ref (prA K C f)) "__get__") (some (some (.builtin "property.__get__")))) &&
  (decide (PySem.W.takesIn K (.ref (prA K C f)) = some true) && (recB (PySem.W.recIn K (prA K C f) "property") && PySem.W.keepIn K (.ref (prG K C f))))
theorem propB_ok {K : PySem.W.Frag} {C : Addr} {f : Str} (h : propB K C f = true) : PropOf K C f (prA K C f) (prG K C f) ∧ PySem.W.keepIn K (.ref (prG K C f)) = true := by
  obtain ⟨a, b⟩ := He.ba h
  obtain ⟨a1, a2⟩ := He.ba a
  obtain ⟨b1, b⟩ := He.ba b
  obtain ⟨b2, b3⟩ := He.ba b
  have e : PySem.W.findIn K (.ref C) f = some (some (.ref (prA K C f))) := by
    unfold prA
    cases h1 : PySem.W.findIn K (.ref C) f with
    | none => rw [h1] at a1; cases a1
    | some o =>
      rw [h1] at a1
      cases o with
      | none => cases a1
      | some v =>
        cases v with
        | ref p => rfl
        | _ => cases a1
  obtain ⟨rest, e2⟩ := recB_ok b2
  exact ⟨⟨e, He.eqO_ok a2, of_decide_eq_true b1, rest, e2⟩, b3⟩
structure PrD where
  cls : Str
  nm : Str
  d : He.DefD
def PrD.ad (K : PySem.W.Frag) (x : PrD) : Addr := prG K (He.ga K x.cls) x.nm
def prW (K : PySem.W.Frag) (x : PrD) : He.FnW := match K.lookup (x.ad K) with
  | some ⟨_, _, .func fd, _⟩ => some (fd.name, fd.qualname, fd.params, fd.body, fd.scope, fd.globals, fd.closure, fd.builtins)
  | _ => none
def PrD.ok (K : PySem.W.Frag) (x : PrD) : Bool := propB K (He.ga K x.cls) x.nm && (match K.lookup (x.ad K) with
  | some ⟨_, _, .func fd, _⟩ => PySem.W.codeIn K fd.code x.d.qual && (He.dflB K fd.defaults (x.d.dvs K) && He.kwdB K fd.kwdefaults (x.d.kws K))
  | _ => false)
theorem PrD.funD {K : PySem.W.Frag} {x : PrD} (e : prW K x = x.d.val) (c : x.ok K = true) : (∃ p, PropOf K (He.ga K x.cls) x.nm p (x.ad K)) ∧ ∃ fd, FunD K x.d.name x.d.qual x.d.params x.d.body x.d.scope (x.d.dvs K) (x.d.kws K) (x.ad K) fd := by
  obtain ⟨st, c⟩ := He.ba c
  obtain ⟨S, kp⟩ := propB_ok st
  refine ⟨⟨_, S⟩, ?_⟩
  unfold prW at e
  cases look : K.lookup (x.ad K) with
  | none =>
    rw [look] at c
    cases c
  | some ob =>
    obtain ⟨oc, od, dt, sl⟩ := ob
    rw [look] at c e
    cases dt with
    | func fd =>
      obtain ⟨f1, f2, f3, f4, f5, f6, f7, f8, f9, f10, f11, f12, f13, f14, f15⟩ := fd
      have same : (some (f1, f2, f3, f4, f5, f6, f7, f15) : He.FnW) = some (x.d.name, x.d.qual, x.d.params, .stmts x.d.body, x.d.scope, mainGlobals, [], builtinsNs) := e
      simp only [Option.some.injEq, Prod.mk.injEq] at same
      obtain ⟨i1, i2, i3, i4, i5, i6, i7, i8⟩ := same
      subst i1 i2 i3 i4 i5 i6 i7 i8
      have all : (PySem.W.codeIn K f13 x.d.qual && (He.dflB K f8 (x.d.dvs K) && He.kwdB K f9 (x.d.kws K))) = true := c
      obtain ⟨j1, all⟩ := He.ba all
      obtain ⟨j2, j3⟩ := He.ba all
      exact ⟨_, ⟨oc, od, f8, f9, f10, f11, f12, f13, f14, sl, rfl, look, j1, He.dflB_ok j2, He.kwdB_ok j3⟩, kp⟩
    | _ => cases c
abbrev AlP : Type := AlS × (Bool × List He.FnW)
def obsP (n : Nat) (fa : List He.Fa) (fn : List He.DefD) (sd : List StD) (pd : List PrD) (ex : PySem.W.Frag → Bool) (g : Addr → Option Obj) : AlP :=
  (obsS n fa fn sd ex g, (pd.all fun x => x.ok (He.frT g (cStatics :: He.asD g n))), pd.map fun x => prW (He.frT g (cStatics :: He.asD g n)) x)
def valP (fn : List He.DefD) (sd : List StD) (pd : List PrD) : AlP := (valS fn sd, true, pd.map fun x => x.d.val)
structure SaysP (fa : List He.Fa) (fn : List He.DefD) (sd : List StD) (pd : List PrD) (ex : PySem.W.Frag → Bool) (K : PySem.W.Frag) : Prop where
  s : SaysS fa fn sd ex K
  pr : ∀ x ∈ pd, (∃ p, PropOf K (He.ga K x.cls) x.nm p (x.ad K)) ∧ ∃ fd, FunD K x.d.name x.d.qual x.d.params x.d.body x.d.scope (x.d.dvs K) (x.d.kws K) (x.ad K) fd
theorem saysP_of {fa : List He.Fa} {fn : List He.DefD} {sd : List StD} {pd : List PrD} {ex : PySem.W.Frag → Bool} {K : PySem.W.Frag} (e : (((((He.obsD fa fn K, ex K && sd.all fun x => x.ok K), sd.map fun x => stW K x) : AlS), (pd.all fun x => x.ok K), pd.map fun x => prW K x) : AlP) = valP fn sd pd) : SaysP fa fn sd pd ex K := by
  have e1 := congrArg (fun z : AlP => z.1) e
  have e2 : (pd.all fun x => x.ok K) = true := congrArg (fun z : AlP => z.2.1) e
  have e3 : (pd.map fun x => prW K x) = pd.map fun x => x.d.val := congrArg (fun z : AlP => z.2.2) e
  refine ⟨saysS_of e1, fun x hx => ?_⟩
  obtain ⟨i, hi, rfl⟩ := List.mem_iff_getElem.mp hx
  have e4 : (pd.map fun x => prW K x)[i]? = (pd.map fun x => x.d.val)[i]? := by rw [e3]
  rw [List.getElem?_map, List.getElem?_map, List.getElem?_eq_getElem hi] at e4
  exact PrD.funD (Option.some.inj e4) (List.all_eq_true.mp e2 _ hx)
def hookP (n : Nat) (fa : List He.Fa) (fn : List He.DefD) (sd : List StD) (pd : List PrD) (ex : PySem.W.Frag → Bool) : PySem.W.Hook where
  α := AlP
  obs := fun s => obsP n fa fn sd pd ex s.heap.get?
  val := fun _ => valP fn sd pd
  says := fun _ h => ∃ K : PySem.W.Frag, K.In h ∧ SaysP fa fn sd pd ex K
  of := fun _ _ e => ⟨_, He.frT_in, saysP_of e⟩
  keeps := fun _ _ _ ⟨K, hK, c⟩ k => ⟨K, PySem.W.Frag.In.keeps hK k, c⟩
theorem obsP_eq {n : Nat} {fa : List He.Fa} {fn : List He.DefD} {sd : List StD} {pd : List PrD} {ex : PySem.W.Frag → Bool} {g : Addr → Option Obj} {s : Shared} (h : ∀ a, g a = s.heap.get? a) : obsP n fa fn sd pd ex g = (hookP n fa fn sd pd ex).obs s := by
  have e : g = s.heap.get? := funext h
  rw [e] <;> rfl
end Tl

set_option autoImplicit false
set_option maxErrors 4
/-! What the head reads, gathered path by path (no duplicates taken out), in several kernel runs. -/
namespace Tl
open PySem PySem.Spec PyProof.Rows L2
def kidsT (g : Addr → Option Obj) (a : Addr) : List Addr := match g a with
  | some ⟨_, _, .func fd, _⟩ => He.refV fd.code ++ (He.refV fd.defaults ++ He.refV fd.kwdefaults)
  | some ⟨_, _, .cls cd, _⟩ => [cd.ns]
  | some ⟨_, _, .dict es _, _⟩ => es.toList.flatMap fun e => He.refV e.val
  | some ⟨.type t, _, .fields vs, _⟩ => if t == "staticmethod" || t == "property" then vs.toList.flatMap He.refV else []
  | _ => []
def deepT (g : Addr → Option Obj) : Nat → Addr → List Addr
  | 0, a => [a]
  | n + 1, a => a :: (kidsT g a).flatMap (deepT g n)
/-- the module's globals, their classes, methods, codes -/
def asT (g : Addr → Option Obj) : List Addr := cStatics :: mainGlobals :: (kidsT g mainGlobals).flatMap (deepT g 4)
def frQ (g : Addr → Option Obj) : PySem.W.Frag := He.frT g (asT g)
def obsQ (fa : List He.Fa) (fn : List He.DefD) (sd : List StD) (pd : List PrD) (ex : PySem.W.Frag → Bool) (g : Addr → Option Obj) : AlP :=
  ((((((fa.all fun f => f.ok (frQ g)) && fn.all fun d => d.ok (frQ g), fn.map fun d => He.fnW (frQ g) d.at_) : He.AlD), ex (frQ g) && sd.all fun x => x.ok (frQ g)), sd.map fun x => stW (frQ g) x), (pd.all fun x => x.ok (frQ g), pd.map fun x => prW (frQ g) x))
def hookQ (fa : List He.Fa) (fn : List He.DefD) (sd : List StD) (pd : List PrD) (ex : PySem.W.Frag → Bool) : PySem.W.Hook where
  α := AlP
  obs := fun s => obsQ fa fn sd pd ex s.heap.get?
  val := fun _ => valP fn sd pd
  says := fun _ h => ∃ K : PySem.W.Frag, K.In h ∧ SaysP fa fn sd pd ex K
  of := fun _ _ e => ⟨_, He.frT_in, saysP_of e⟩
  keeps := fun _ _ _ ⟨K, hK, c⟩ k => ⟨K, PySem.W.Frag.In.keeps hK k, c⟩
theorem obsQ_eq {fa : List He.Fa} {fn : List He.DefD} {sd : List StD} {pd : List PrD} {ex : PySem.W.Frag → Bool} {g : Addr → Option Obj} {s : Shared} (h : ∀ a, g a = s.heap.get? a) : obsQ fa fn sd pd ex g = (hookQ fa fn sd pd ex).obs s := by
  have e : g = s.heap.get? := funext h
  rw [e] <;> rfl
theorem glueQ {α β γ δ : Type} {X : Option α} {f1 f2 f4 f5 f7 : α → Bool} {f3 : α → β} {f6 : α → γ} {f8 : α → δ} {v3 : β} {v6 : γ} {v8 : δ} (h1 : X.map f1 = some true) (h2 : X.map f2 = some true) (h3 : X.map f3 = some v3) (h4 : X.map f4 = some true) (h5 : X.map (fun s => (f5 s, f6 s, f7 s, f8 s)) = some (true, v6, true, v8)) :
    X.map (fun s => ((((f1 s && f2 s, f3 s), f4 s && f5 s), f6 s), (f7 s, f8 s))) = some ((((true, v3), true), v6), (true, v8)) := by
  cases X with
  | none => cases h1
  | some s =>
    have e1 : f1 s = true := Option.some.inj h1
    have e2 : f2 s = true := Option.some.inj h2
    have e3 : f3 s = v3 := Option.some.inj h3
    have e4 : f4 s = true := Option.some.inj h4
    have e5 : (f5 s, f6 s, f7 s, f8 s) = (true, v6, true, v8) := Option.some.inj h5
    injection e5 with a1 e5
    injection e5 with a2 e5
    injection e5 with a3 a4
    show some ((((f1 s && f2 s, f3 s), f4 s && f5 s), f6 s), (f7 s, f8 s)) = _
    rw [e1, e2, e3, e4, a1, a2, a3, a4]
    rfl
end Tl

/-! Operators that an own class defines, as rules of the hand layer: a op b, str op a, ~a, x in a, len(a), bool(a), a op= b, a == b. -/
namespace Tl
open PySem PySem.Spec PyProof.Rows L2
theorem back_ok {X : Cx} {pins : List (Addr × Obj)} {σ : L2.St} {Q : VK} {u : Value} {s : Shared} (h : EP X pins σ Q u s) : PySem.W.CmpBack (EP X pins σ Q) u s := by
  cases u with
  | notImplemented =>
    obtain ⟨v, H', _, rv, _⟩ := h
    cases v <;> first | (exact nomatch rv) | (obtain ⟨_, e⟩ := rv; exact nomatch e)
  | _ => exact h
theorem relRef (a : Addr) : RelV (.ref a) (.ref a) := rfl
theorem relStr (z : Str) (t : Tok) : RelV (.str z) (.str z t) := ⟨t, rfl⟩
/-- the class at C, a method m of it at f, m an operator's name -/
structure OpC (K : PySem.W.Frag) (C : Addr) (m : Str) (f : Addr) : Prop where
  at_ : PySem.W.findIn K (.ref C) m = some (some (.ref f))
  fn : PySem.W.isFn K (.ref f) = true
section
variable {X : Cx} {CX : CXT} {k : Nat} {C f : Addr} {fd : FuncData} {ps : List Str} {sp : Sp} {E : XK}
theorem inst_of {pins : List (Addr × Obj)} {σ : L2.St} {H : Hp} {s : Shared} {a dx : Addr} {fs : List (Str × V)} (I : Inv X pins σ H s) (e : H a = some (.ins C dx fs)) : ∃ ox od, PySem.W.InstAt s.heap a ox C (some od) := by
  obtain ⟨mA, O, _, _, _, _⟩ := ins_get I.hok e
  obtain ⟨od, J, _⟩ := O.look
  exact ⟨_, od, J⟩
theorem run_op {pins : List (Addr × Obj)} {σ : L2.St} {H : Hp} {s : Shared} {Q : VK} {vs : List V} {us : List Value} (F : FnOk X.prog X.w X.K X.mg X.base CX k f fd ps sp) (hr : Room k X.A) (hb : Binds X.K fd ps []) (hx : Passes CX X E)
    (I : Inv X pins σ H s) (r : Vals vs us) (h : sp vs H Q E) : wpAny (model X.prog X.w) X.A (call (.ref f) us) (EP X pins σ Q) X.xe s :=
  run_fn (dvs := []) F hr hb .nil hx I r (by rw [List.append_nil]; exact h)
/-- a op b, both instances of C -/
def rBin (C : Addr) (sp : Sp) (E : XK) : R2 := fun x y H Q => ∃ a dx fs b dy gs, x = .ref a ∧ y = .ref b ∧ H a = some (.ins C dx fs) ∧ H b = some (.ins C dy gs) ∧ sp [.ref a, .ref b] H Q E
theorem op_bin {op : Operator} (hc : PySem.W.selfFirst X.K C = true) (M : OpC X.K C (PySem.dunder op.info.2) f) (F : FnOk X.prog X.w X.K X.mg X.base CX k f fd ps sp) (hr : Room k X.A) (hb : Binds X.K fd ps []) (hx : Passes CX X E) :
    OpR X (binaryOp op) (rBin C sp E) := by
  intro pins s σ H x y v u Q I rx ry h
  obtain ⟨a, dx, fs, b, dy, gs, rfl, rfl, ha, hb2, q⟩ := h
  cases rx
  cases ry
  obtain ⟨oa, da, Ja⟩ := inst_of I ha
  obtain ⟨ob, db, Jb⟩ := inst_of I hb2
  obtain ⟨mm, Fm⟩ := I.fr
  have one := run_op F hr hb hx I (.cons (relRef _) (.cons (relRef _) .nil)) q
  exact PySem.W.binop_K Fm I.mod.kin Ja Jb.type hc M.at_ M.fn (wpAny_mono one (fun _ _ z => back_ok z) fun _ _ z => z)
/-- a op z, a an instance of C, z a text -/
def rBinS (C : Addr) (sp : Sp) (E : XK) : R2 := fun x y H Q => ∃ a dx fs z, x = .ref a ∧ y = .str z ∧ H a = some (.ins C dx fs) ∧ sp [.ref a, .str z] H Q E
theorem op_binS {op : Operator} {fo ro rc : Option Value} (hc : PySem.W.selfFirst X.K C = true) (M : OpC X.K C (PySem.dunder op.info.2) f) (hR : PySem.W.findIn X.K (.ref C) (dunderR op.info.2) = some rc) (hp : rc = none ∨ ∃ g : Addr, rc = some (.ref g))
    (h1 : PySem.W.findIn X.K (.type "str") (PySem.dunder op.info.2) = some fo) (h2 : PySem.W.findIn X.K (.type "str") (dunderR op.info.2) = some ro) (hsub : PySem.W.subIn X.K (.type "str") (.ref C) = some false)
    (F : FnOk X.prog X.w X.K X.mg X.base CX k f fd ps sp) (hr : Room k X.A) (hb : Binds X.K fd ps []) (hx : Passes CX X E) : OpR X (binaryOp op) (rBinS C sp E) := by
  intro pins s σ H x y v u Q I rx ry h
  obtain ⟨a, dx, fs, z, rfl, rfl, ha, q⟩ := h
  cases rx
  obtain ⟨t, rfl⟩ := ry
  obtain ⟨oa, da, Ja⟩ := inst_of I ha
  obtain ⟨mm, Fm⟩ := I.fr
  have one := run_op F hr hb hx I (.cons (relRef _) (.cons (relStr z t) .nil)) q
  exact PySem.W.ksp_binT Fm I.mod.kin Ja (by rfl) hc M.at_ M.fn hR hp h1 h2 hsub (wpAny_mono one (fun _ _ z => back_ok z) fun _ _ z => z)
/-- ~a -/
def rInv (C : Addr) (sp : Sp) (E : XK) : V → Hp → VK → Prop := fun x H Q => ∃ a dx fs, x = .ref a ∧ H a = some (.ins C dx fs) ∧ sp [.ref a] H Q E
theorem un_own (M : OpC X.K C "__invert__" f) (F : FnOk X.prog X.w X.K X.mg X.base CX k f fd ps sp) (hr : Room k X.A) (hb : Binds X.K fd ps []) (hx : Passes CX X E) : UnR X (unaryOp .Invert) (rInv C sp E) := by
  intro pins s σ H x v Q I rx h
  obtain ⟨a, dx, fs, rfl, ha, q⟩ := h
  cases rx
  obtain ⟨oa, da, Ja⟩ := inst_of I ha
  obtain ⟨mm, Fm⟩ := I.fr
  have one := run_op F hr hb hx I (.cons (relRef _) .nil) q
  exact PySem.W.ksp_inv Fm I.mod.kin Ja M.at_ M.fn one
/-- x in a, the method handing back True or False -/
def rInO (C : Addr) (sp : Sp) (E : XK) (neg : Bool) : R2 := fun x y H Q => ∃ a dx fs, y = .ref a ∧ H a = some (.ins C dx fs) ∧ sp [.ref a, x] H (fun v H' => ∃ b, v = .bl b ∧ Q (.bl (if neg then !b else b)) H') E
theorem op_inO (M : OpC X.K C "__contains__" f) (F : FnOk X.prog X.w X.K X.mg X.base CX k f fd ps sp) (hr : Room k X.A) (hb : Binds X.K fd ps []) (hx : Passes CX X E) : OpR X (compareOp .In) (rInO C sp E false) := by
  intro pins s σ H x y v u Q I rx ry h
  obtain ⟨a, dx, fs, rfl, ha, q⟩ := h
  cases ry
  obtain ⟨oa, da, Ja⟩ := inst_of I ha
  obtain ⟨mm, Fm⟩ := I.fr
  have one := run_op F hr hb hx I (.cons (relRef _) (.cons rx .nil)) q
  refine PySem.W.in_K Fm I.mod.kin Ja M.at_ M.fn (wpAny_mono one (fun r s' z => ?_) fun _ _ z => z)
  obtain ⟨w, H', I', rw', b, rfl, q'⟩ := z
  cases rw'
  exact wpAny_truthy_bool ⟨.bl b, H', I', rfl, q'⟩
theorem op_notInO (M : OpC X.K C "__contains__" f) (F : FnOk X.prog X.w X.K X.mg X.base CX k f fd ps sp) (hr : Room k X.A) (hb : Binds X.K fd ps []) (hx : Passes CX X E) : OpR X (compareOp .NotIn) (rInO C sp E true) := by
  intro pins s σ H x y v u Q I rx ry h
  obtain ⟨a, dx, fs, rfl, ha, q⟩ := h
  cases ry
  obtain ⟨oa, da, Ja⟩ := inst_of I ha
  obtain ⟨mm, Fm⟩ := I.fr
  have one := run_op F hr hb hx I (.cons (relRef _) (.cons rx .nil)) q
  refine PySem.W.notIn_K Fm I.mod.kin Ja M.at_ M.fn (wpAny_mono one (fun r s' z => ?_) fun _ _ z => z)
  obtain ⟨w, H', I', rw', b, rfl, q'⟩ := z
  cases rw'
  exact wpAny_truthy_bool ⟨.bl (!b), H', I', rfl, q'⟩
/-- len(a) by an own method -/
def rLenO (C : Addr) (sp : Sp) (E : XK) : List V → Hp → VK → Prop := fun xs H Q => ∃ a dx fs, xs = [.ref a] ∧ H a = some (.ins C dx fs) ∧ sp [.ref a] H (fun v H' => ∃ n : Int, v = .int n ∧ 0 ≤ n ∧ n < 2 ^ 63 ∧ Q (.int n) H') E
/-- truth of a by an own method -/
def rTruO (C : Addr) (sp : Sp) (E : XK) : V → Hp → (Bool → Hp → Prop) → Prop := fun x H Q => ∃ a dx fs, x = .ref a ∧ H a = some (.ins C dx fs) ∧ sp [.ref a] H (fun v H' => ∃ b, v = .bl b ∧ Q b H') E
theorem tru_own (M : OpC X.K C "__bool__" f) (F : FnOk X.prog X.w X.K X.mg X.base CX k f fd ps sp) (hr : Room k X.A) (hb : Binds X.K fd ps []) (hx : Passes CX X E) : TruR X (rTruO C sp E) := by
  intro pins s σ H x v Q I rx h
  obtain ⟨a, dx, fs, rfl, ha, q⟩ := h
  cases rx
  obtain ⟨oa, da, Ja⟩ := inst_of I ha
  obtain ⟨mm, Fm⟩ := I.fr
  have one := run_op F hr hb hx I (.cons (relRef _) .nil) q
  refine PySem.W.truthy_K Fm I.mod.kin Ja M.at_ M.fn (wpAny_mono one (fun r s' z => ?_) fun _ _ z => z)
  obtain ⟨w, H', I', rw', b, rfl, q'⟩ := z
  cases rw'
  exact ⟨H', I', q'⟩
/-- a op= y -/
def rIp (C : Addr) (sp : Sp) (E : XK) : TIp := fun x y H Q => ∃ a dx fs, x = .ref a ∧ H a = some (.ins C dx fs) ∧ sp [.ref a, y] H Q E
theorem ip_own {op : Operator} (hc : PySem.W.selfFirst X.K C = true) (M : OpC X.K C (dunderI op.info.2) f) (F : FnOk X.prog X.w X.K X.mg X.base CX k f fd ps sp) (hr : Room k X.A) (hb : Binds X.K fd ps []) (hx : Passes CX X E) : PIp X op (rIp C sp E) := by
  intro pins s σ H x y v u Q I rx ry h
  obtain ⟨a, dx, fs, rfl, ha, q⟩ := h
  cases rx
  obtain ⟨oa, da, Ja⟩ := inst_of I ha
  obtain ⟨mm, Fm⟩ := I.fr
  have one := run_op F hr hb hx I (.cons (relRef _) (.cons ry .nil)) q
  exact PySem.W.ksp_inplace Fm I.mod.kin Ja hc M.at_ M.fn (wpAny_mono one (fun _ _ z => back_ok z) fun _ _ z => z)
/-- the left operand is of a built-in type that declines, the right one an instance of C -/
theorem binR {prog : Program} {w : World} {A : Around} {E' : Value → Shared → Prop} {s : Shared} {K : PySem.W.Frag} {x C f g L : Addr} {h₀ : Heap} {m : Str → Option Value} {ox : Obj} {od : Option Obj} {T : String} {op : Operator} {b : Value} {fo ro : Option Value} {Q : Value → Shared → Prop}
    (F : Fr h₀ L s.heap m) (X₀ : K.In h₀) (J : PySem.W.InstAt s.heap x ox C od) (hb : typeOf b = pure (.type T)) (hc : PySem.W.selfFirst K C = true)
    (hs : PySem.W.findIn K (.ref C) (PySem.dunder op.info.2) = some (some (.ref f))) (hg : PySem.W.findIn K (.ref C) (dunderR op.info.2) = some (some (.ref g))) (hf : PySem.W.isFn K (.ref g) = true)
    (h1 : PySem.W.findIn K (.type T) (PySem.dunder op.info.2) = some fo) (h2 : PySem.W.findIn K (.type T) (dunderR op.info.2) = some ro) (hl : ((fo.isSome && !isSeqSlot fo) || (ro.isSome && !isSeqSlot ro)) = false)
    (h : wpAny (model prog w) A (call (.ref g) [.ref x, b]) (PySem.W.CmpBack Q) E' s) : wpAny (model prog w) A (binaryOp op b (.ref x)) Q E' s := by
  have Xk := X₀.keeps F.keep
  obtain ⟨cd, rest, hcd, hm⟩ := PySem.W.ksp_first hc
  rcases hi : op.info with ⟨sym, nm'⟩
  rw [hi] at hs hg h1 h2
  dsimp only at hs hg h1 h2
  have one := PySem.W.ksp_try Xk J hg hf h
  obtain ⟨hh, gg, d, tt, os⟩ := s
  have L1 : PySem.W.Looks (model prog w) hh (typeOf b) (.type T) := PySem.W.Looks.of_pure hb
  have L2 : PySem.W.Looks (model prog w) hh (typeOf (.ref x)) (.ref C) := J.type
  have L3 : PySem.W.Looks (model prog w) hh (fillsNumberSlot (.ref C) nm') true := PySem.W.fills_K Xk hcd hm hs
  have L4 : PySem.W.Looks (model prog w) hh (fillsNumberSlot (.type T) nm') false := by
    have z := PySem.W.ksp_fillsT (M := model prog w) Xk h1 h2
    rw [hl] at z
    exact z
  have hne : (Value.type T == Value.ref C) = false := Bool.eq_false_iff.mpr fun q => by cases beq_iff_eq.mp q
  simp only [binaryOp, hi]
  refine wpAny_holding (wpAny_bind ?_)
  unfold binaryOp1
  refine wpAny_bind (L1.at (wpAny_bind (L2.at (wpAny_bind (L4.at ?_)))))
  simp only [hne, Bool.false_eq_true, if_false]
  ksp_lk
  refine wpAny_mono one (fun r s' hr' => ?_) fun _ _ e => e
  obtain ⟨v, rfl, hq⟩ := hr'
  ksp_lk
  exact hq
/-- z op a, z a text, a an instance of C -/
def rBinR (C : Addr) (sp : Sp) (E : XK) : R2 := fun x y H Q => ∃ a dx fs z, x = .str z ∧ y = .ref a ∧ H a = some (.ins C dx fs) ∧ sp [.ref a, .str z] H Q E
theorem op_binR {op : Operator} {g : Addr} {fo ro : Option Value} (hc : PySem.W.selfFirst X.K C = true) (M0 : OpC X.K C (PySem.dunder op.info.2) g) (M : OpC X.K C (dunderR op.info.2) f)
    (h1 : PySem.W.findIn X.K (.type "str") (PySem.dunder op.info.2) = some fo) (h2 : PySem.W.findIn X.K (.type "str") (dunderR op.info.2) = some ro) (hl : ((fo.isSome && !isSeqSlot fo) || (ro.isSome && !isSeqSlot ro)) = false)
    (F : FnOk X.prog X.w X.K X.mg X.base CX k f fd ps sp) (hr : Room k X.A) (hb : Binds X.K fd ps []) (hx : Passes CX X E) : OpR X (binaryOp op) (rBinR C sp E) := by
  intro pins s σ H x y v u Q I rx ry h
  obtain ⟨a, dx, fs, z, rfl, rfl, ha, q⟩ := h
  obtain ⟨t, rfl⟩ := rx
  cases ry
  obtain ⟨oa, da, Ja⟩ := inst_of I ha
  obtain ⟨mm, Fm⟩ := I.fr
  have one := run_op F hr hb hx I (.cons (relRef _) (.cons (relStr z t) .nil)) q
  exact binR Fm I.mod.kin Ja (by rfl) hc M0.at_ M.at_ M.fn h1 h2 hl (wpAny_mono one (fun _ _ z => back_ok z) fun _ _ z => z)
/-- a == b by an own __eq__, b an instance of C too -/
theorem op_eqO (M : OpC X.K C "__eq__" f) (F : FnOk X.prog X.w X.K X.mg X.base CX k f fd ps sp) (hr : Room k X.A) (hb : Binds X.K fd ps []) (hx : Passes CX X E) : OpR X (compareOp .Eq) (rBin C sp E) := by
  intro pins s σ H x y v u Q I rx ry h
  obtain ⟨a, dx, fs, b, dy, gs, rfl, rfl, ha, hb2, q⟩ := h
  cases rx
  cases ry
  obtain ⟨oa, da, Ja⟩ := inst_of I ha
  obtain ⟨ob, db, Jb⟩ := inst_of I hb2
  obtain ⟨mm, Fm⟩ := I.fr
  have one := run_op F hr hb hx I (.cons (relRef _) (.cons (relRef b) .nil)) q
  exact PySem.W.cmp_K (op := .Eq) (Nat.lt_of_succ_lt (hu_of hr)) Fm I.mod.kin Ja Jb.type (by show ((Value.ref C == Value.ref C) || _) = true; rw [beq_self_eq_true]; rfl) M.at_ M.fn (wpAny_mono one (fun _ _ z => back_ok z) fun _ _ z => z)
theorem call_lenO (M : OpC X.K C "__len__" f) (F : FnOk X.prog X.w X.K X.mg X.base CX k f fd ps sp) (hr : Room (k + 1) X.A) (hb : Binds X.K fd ps []) (hx : Passes CX X E) : CallR X (.builtin "len") (rLenO C sp E) := by
  intro pins s σ H xs us Q I r h
  obtain ⟨a, dx, fs, rfl, ha, q⟩ := h
  rw [Vals.ref1 r]
  obtain ⟨oa, da, Ja⟩ := inst_of I ha
  obtain ⟨mm, Fm⟩ := I.fr
  have hl : ([Value.ref a] ++ []).length = ps.length := by
    rw [← F.len _ _ _ _ q]
    rfl
  refine PySem.W.len_K Fm I.mod.kin Ja M.at_ M.fn (wpAny_call (codeAny_mono (F.run X.A.in1 X.stack s H ⟨[.ref a], []⟩ [.ref a] [.ref a] _ E hr.in1 I.env0.in1 (hb _ [.ref a] I.kIn hl) (.cons (relRef _) .nil) q) fun r s' hq => ?_))
  cases r with
  | error er => exact hx pins σ H s er s' I hq
  | ok fl =>
    cases fl with
    | ret u =>
      obtain ⟨v, H', I3, rv, n, rfl, h0, h1, q3⟩ := I.after hq
      obtain ⟨t, rfl⟩ := rv
      exact ⟨⟨h0, h1⟩, .int n, H', I3.tok _, ⟨_, rfl⟩, q3⟩
    | next => exact False.elim hq
    | brk => exact False.elim hq
    | cont => exact False.elim hq
end
end Tl

set_option autoImplicit false
set_option maxErrors 4
/-! a * b, a an instance of an own class or b one, the method may raise; operators whose errors are told by the names of the frame. -/
namespace Tl
open PySem PySem.Spec PyProof.Rows L2
/-- an operation, its ways out told by the frame -/
def OpS (X : Cx) (op : Value → Value → Sem Value) (r : L2.St → R2) : Prop :=
  ∀ (pn : List (Addr × Obj)) (t : Shared) (τ : L2.St) (G : Hp) (a b : V) (va vb : Value) (W : VK), Inv X pn τ G t → RelV a va → RelV b vb → r τ a b G W → wpAny (model X.prog X.w) X.A (op va vb) (EP X pn τ W) X.xe t
def tOpS (r : L2.St → R2) (tl tr : TE) : TE := fun τ G W => tl τ G fun a G1 => tr τ G1 fun b G2 => r τ a b G2 W
theorem pe_opS {X : Cx} {l m : Expr} {o : Operator} {at_ : Pos} {tl tr : TE} {r : L2.St → R2} (h : OpS X (binaryOp o) r) (hl : PE X l tl) (hm : PE X m tr) : PE X (.BinOp l o m at_) (tOpS r tl tr) :=
  ⟨fun pn t τ G W I z => wpAny_BinOp (binT hl hm I z fun va vb t2 a b G2 J ra rb y => h pn t2 τ G2 a b va vb W J ra rb y)⟩
/-- a value of a built-in type -/
inductive Pl (H : Hp) : V → String → Prop
  | non : Pl H .non "NoneType"
  | bl (b : Bool) : Pl H (.bl b) "bool"
  | int (n : Int) : Pl H (.int n) "int"
  | str (z : Str) : Pl H (.str z) "str"
  | lst {a : Addr} {xs : List V} : H a = some (.lst xs) → Pl H (.ref a) "list"
theorem Pl.looks {X : Cx} {pn : List (Addr × Obj)} {τ : L2.St} {H : Hp} {t : Shared} {x : V} {u : Value} {T : String} (p : Pl H x T) (I : Inv X pn τ H t) (r : RelV x u) : PySem.W.Looks (model X.prog X.w) t.heap (typeOf u) (.type T) := by
  cases p with
  | non =>
    cases r
    exact PySem.W.Looks.of_pure rfl
  | bl b =>
    cases r
    exact PySem.W.Looks.of_pure rfl
  | int n =>
    obtain ⟨k, rfl⟩ := r
    exact PySem.W.Looks.of_pure rfl
  | str z =>
    obtain ⟨k, rfl⟩ := r
    exact PySem.W.Looks.of_pure rfl
  | @lst a xs e =>
    cases r
    obtain ⟨_, its, n, _, g⟩ := (show ObjOk X.prog X.w H t.heap a (.lst xs) from I.hok a _ e)
    intro _ _ _ _ keep q
    exact wpAny_typeOf_ref (keep _ _ g) q
section
variable {prog : Program} {w : World} {A : Around} {E' : Value → Shared → Prop} {s : Shared} {K : PySem.W.Frag} {x C f g L : Addr} {h₀ : Heap} {m : Str → Option Value} {ox : Obj} {od : Option Obj} {T : String} {op : Operator} {b : Value} {fo ro : Option Value} {Q : Value → Shared → Prop}
/-- the left operand an instance, the right one of a built-in type -/
theorem binL (F : Fr h₀ L s.heap m) (X₀ : K.In h₀) (J : PySem.W.InstAt s.heap x ox C od) (hb : PySem.W.Looks (model prog w) s.heap (typeOf b) (.type T)) (hc : PySem.W.selfFirst K C = true)
    (hs : PySem.W.findIn K (.ref C) (PySem.dunder op.info.2) = some (some (.ref f))) (hf : PySem.W.isFn K (.ref f) = true) (hg : PySem.W.findIn K (.ref C) (dunderR op.info.2) = some (some (.ref g)))
    (h1 : PySem.W.findIn K (.type T) (PySem.dunder op.info.2) = some fo) (h2 : PySem.W.findIn K (.type T) (dunderR op.info.2) = some ro) (no : PySem.W.subIn K (.type T) (.ref C) = some false)
    (h : wpAny (model prog w) A (call (.ref f) [.ref x, b]) (PySem.W.CmpBack Q) E' s) : wpAny (model prog w) A (binaryOp op (.ref x) b) Q E' s := by
  have Xk := X₀.keeps F.keep
  obtain ⟨cd, rest, hcd, hm⟩ := PySem.W.ksp_first hc
  rcases hi : op.info with ⟨sym, nm'⟩
  rw [hi] at hs hg h1 h2
  dsimp only at hs hg h1 h2
  have tried := PySem.W.ksp_try Xk J hs hf h
  obtain ⟨hh, gg, d, tt, os⟩ := s
  have A1 : PySem.W.Looks (model prog w) hh (typeOf (.ref x)) (.ref C) := J.type
  have A2 : PySem.W.Looks (model prog w) hh (typeOf b) (.type T) := hb
  have A3 : PySem.W.Looks (model prog w) hh (fillsNumberSlot (.ref C) nm') true := PySem.W.fills_K Xk hcd hm hs
  have A4 := PySem.W.ksp_fillsT (M := model prog w) Xk h1 h2
  have A5 : PySem.W.Looks (model prog w) hh (isSubtype (.type T) (.ref C)) false := PySem.W.looks_subIn Xk no
  have A6 : PySem.W.Looks (model prog w) hh (numberSlotInPython (.ref C) nm') true := PySem.W.ksp_inPy Xk hs hg (.inr ⟨g, rfl⟩)
  have A7 : PySem.W.Looks (model prog w) hh (numberSlotInPython (.type T) nm') false := PySem.W.Looks.of_pure rfl
  have A8 : PySem.W.Looks (model prog w) hh (typeLookup (.type T) (dunderR nm')) ro := PySem.W.looks_findIn Xk h2
  generalize ((fo.isSome && !isSeqSlot fo) || (ro.isSome && !isSeqSlot ro)) = side at A4
  have unlike : (Value.ref C == Value.type T) = false := Bool.eq_false_iff.mpr fun q => by cases beq_iff_eq.mp q
  simp only [binaryOp, hi]
  refine wpAny_holding (wpAny_bind ?_)
  unfold binaryOp1
  refine wpAny_bind (A1.at (wpAny_bind (A2.at (wpAny_bind (A3.at ?_)))))
  simp only [unlike, Bool.false_eq_true, if_false]
  cases side with
  | false =>
    ksp_lk
    refine wpAny_mono tried (fun r s' z => ?_) fun _ _ e => e
    obtain ⟨v, rfl, q⟩ := z
    ksp_lk
    exact q
  | true =>
    ksp_lk
    refine wpAny_mono tried (fun r s' z => ?_) fun _ _ e => e
    obtain ⟨v, rfl, q⟩ := z
    ksp_lk
    exact q
/-- the left operand of a built-in type without a number's slot, the right one an instance -/
theorem binN (F : Fr h₀ L s.heap m) (X₀ : K.In h₀) (J : PySem.W.InstAt s.heap x ox C od) (hb : PySem.W.Looks (model prog w) s.heap (typeOf b) (.type T)) (hc : PySem.W.selfFirst K C = true)
    (hs : PySem.W.findIn K (.ref C) (PySem.dunder op.info.2) = some (some (.ref f))) (hg : PySem.W.findIn K (.ref C) (dunderR op.info.2) = some (some (.ref g))) (hf : PySem.W.isFn K (.ref g) = true)
    (h1 : PySem.W.findIn K (.type T) (PySem.dunder op.info.2) = some fo) (h2 : PySem.W.findIn K (.type T) (dunderR op.info.2) = some ro) (hl : ((fo.isSome && !isSeqSlot fo) || (ro.isSome && !isSeqSlot ro)) = false)
    (h : wpAny (model prog w) A (call (.ref g) [.ref x, b]) (PySem.W.CmpBack Q) E' s) : wpAny (model prog w) A (binaryOp op b (.ref x)) Q E' s := by
  have Xk := X₀.keeps F.keep
  obtain ⟨cd, rest, hcd, hm⟩ := PySem.W.ksp_first hc
  rcases hi : op.info with ⟨sym, nm'⟩
  rw [hi] at hs hg h1 h2
  dsimp only at hs hg h1 h2
  have tried := PySem.W.ksp_try Xk J hg hf h
  obtain ⟨hh, gg, d, tt, os⟩ := s
  have A1 : PySem.W.Looks (model prog w) hh (typeOf b) (.type T) := hb
  have A2 : PySem.W.Looks (model prog w) hh (typeOf (.ref x)) (.ref C) := J.type
  have A3 : PySem.W.Looks (model prog w) hh (fillsNumberSlot (.ref C) nm') true := PySem.W.fills_K Xk hcd hm hs
  have A4 := PySem.W.ksp_fillsT (M := model prog w) Xk h1 h2
  rw [hl] at A4
  have unlike : (Value.type T == Value.ref C) = false := Bool.eq_false_iff.mpr fun q => by cases beq_iff_eq.mp q
  simp only [binaryOp, hi]
  refine wpAny_holding (wpAny_bind ?_)
  unfold binaryOp1
  refine wpAny_bind (A1.at (wpAny_bind (A2.at (wpAny_bind (A4.at ?_)))))
  simp only [unlike, Bool.false_eq_true, if_false]
  ksp_lk
  refine wpAny_mono tried (fun r s' z => ?_) fun _ _ e => e
  obtain ⟨v, rfl, q⟩ := z
  ksp_lk
  exact q
/-- the left operand of a built-in type whose own method declines -/
theorem binD {id : String} (F : Fr h₀ L s.heap m) (X₀ : K.In h₀) (J : PySem.W.InstAt s.heap x ox C od) (hT : s.TypeIs b T) (hb : PySem.W.Looks (model prog w) s.heap (typeOf b) (.type T)) (hc : PySem.W.selfFirst K C = true)
    (hs : PySem.W.findIn K (.ref C) (PySem.dunder op.info.2) = some (some (.ref f))) (hg : PySem.W.findIn K (.ref C) (dunderR op.info.2) = some (some (.ref g))) (hf : PySem.W.isFn K (.ref g) = true)
    (fills : fillsNumberSlot (.type T) op.info.2 = pure true) (no : PySem.W.subIn K (.ref C) (.type T) = some false) (slot : Slot T (PySem.dunder op.info.2) id)
    (declines : ∀ R : Value → Shared → Prop, R .notImplemented s → wpAny (model prog w) A (call (.builtin id) [b, .ref x]) R E' s)
    (h : wpAny (model prog w) A (call (.ref g) [.ref x, b]) (PySem.W.CmpBack Q) E' s) : wpAny (model prog w) A (binaryOp op b (.ref x)) Q E' s := by
  have Xk := X₀.keeps F.keep
  obtain ⟨cd, rest, hcd, hm⟩ := PySem.W.ksp_first hc
  rcases hi : op.info with ⟨sym, nm'⟩
  rw [hi] at hs hg fills slot
  dsimp only at hs hg fills slot
  have tried := PySem.W.ksp_try Xk J hg hf h
  obtain ⟨hh, gg, d, tt, os⟩ := s
  have A1 : PySem.W.Looks (model prog w) hh (typeOf b) (.type T) := hb
  have A2 : PySem.W.Looks (model prog w) hh (typeOf (.ref x)) (.ref C) := J.type
  have A3 : PySem.W.Looks (model prog w) hh (fillsNumberSlot (.ref C) nm') true := PySem.W.fills_K Xk hcd hm hs
  have A4 : PySem.W.Looks (model prog w) hh (fillsNumberSlot (.type T) nm') true := PySem.W.Looks.of_pure fills
  have A5 : PySem.W.Looks (model prog w) hh (isSubtype (.ref C) (.type T)) false := PySem.W.looks_subIn Xk no
  have A7 : PySem.W.Looks (model prog w) hh (numberSlotInPython (.type T) nm') false := PySem.W.Looks.of_pure rfl
  have unlike : (Value.type T == Value.ref C) = false := Bool.eq_false_iff.mpr fun q => by cases beq_iff_eq.mp q
  simp only [binaryOp, hi]
  refine wpAny_holding (wpAny_bind ?_)
  unfold binaryOp1
  refine wpAny_bind (A1.at (wpAny_bind (A2.at (wpAny_bind (A4.at ?_)))))
  simp only [unlike, Bool.false_eq_true, if_false]
  ksp_lk
  refine wpAny_tryMethod_declines hT slot (declines _ ⟨rfl, ?_⟩)
  ksp_lk
  refine wpAny_mono tried (fun r s' z => ?_) fun _ _ e => e
  obtain ⟨v, rfl, q⟩ := z
  ksp_lk
  exact q
end
theorem asInt_no {M : Model} {A : Around} {E : Value → Shared → Prop} {s : Shared} {p C dx : Addr} {Q : Option Int → Shared → Prop} (g : s.heap.get? p = some (PySem.W.instObj C dx)) (q : Q none s) : wpAny M A (asInt? (.ref p)) Q E s := by
  simp only [asInt?]
  exact wpAny_bind (wpAny_load g (wpAny_pure q))
theorem mul_no (n : Int) (k : Tok) (p C dx : Addr) :
    Meets (Builtin.«int.__mul__» ⟨[.int n k, .ref p], []⟩) (fun _ R t => t.heap.get? p = some (PySem.W.instObj C dx) ∧ R (.ok (.ret Value.notImplemented)) t) := by
  refine .of_wp fun prog w A R t z => ?_
  obtain ⟨hp, gg, dd, tk, os⟩ := t
  obtain ⟨g, z⟩ := z
  wp_walk
  exact ⟨_, rfl, z⟩
theorem mul_noB (n : Bool) (p C dx : Addr) :
    Meets (Builtin.«int.__mul__» ⟨[.bool n, .ref p], []⟩) (fun _ R t => t.heap.get? p = some (PySem.W.instObj C dx) ∧ R (.ok (.ret Value.notImplemented)) t) := by
  refine .of_wp fun prog w A R t z => ?_
  obtain ⟨hp, gg, dd, tk, os⟩ := t
  obtain ⟨g, z⟩ := z
  wp_walk
  exact ⟨_, rfl, z⟩
/-- what the head says of a class with * on both sides -/
structure MulC (K : PySem.W.Frag) (C f g : Addr) : Prop where
  self : PySem.W.selfFirst K C = true
  left : OpC K C (PySem.dunder (Operator.Mult).info.2) f
  right : OpC K C (dunderR (Operator.Mult).info.2) g
  known : ∀ T ∈ ["NoneType", "bool", "int", "str", "list"], (∃ fo ro, PySem.W.findIn K (.type T) (PySem.dunder (Operator.Mult).info.2) = some fo ∧ PySem.W.findIn K (.type T) (dunderR (Operator.Mult).info.2) = some ro ∧
    (T ∈ ["NoneType", "str", "list"] → ((fo.isSome && !isSeqSlot fo) || (ro.isSome && !isSeqSlot ro)) = false)) ∧ PySem.W.subIn K (.type T) (.ref C) = some false ∧ PySem.W.subIn K (.ref C) (.type T) = some false
def mulTB (K : PySem.W.Frag) (C : Addr) (T : String) : Bool := (match PySem.W.findIn K (.type T) (PySem.dunder (Operator.Mult).info.2), PySem.W.findIn K (.type T) (dunderR (Operator.Mult).info.2) with
  | some fo, some ro => decide (T ∈ ["bool", "int"]) || !((fo.isSome && !isSeqSlot fo) || (ro.isSome && !isSeqSlot ro))
  | _, _ => false) && (decide (PySem.W.subIn K (.type T) (.ref C) = some false) && decide (PySem.W.subIn K (.ref C) (.type T) = some false))
def mulB (K : PySem.W.Frag) (C : Addr) : Bool := PySem.W.selfFirst K C && ["NoneType", "bool", "int", "str", "list"].all (mulTB K C)
theorem mulB_ok {K : PySem.W.Frag} {C f g : Addr} (h : mulB K C = true) (l : OpC K C (PySem.dunder (Operator.Mult).info.2) f) (r : OpC K C (dunderR (Operator.Mult).info.2) g) : MulC K C f g := by
  obtain ⟨a, b⟩ := He.ba h
  refine ⟨a, l, r, fun T hT => ?_⟩
  obtain ⟨c, d⟩ := He.ba (List.all_eq_true.mp b T hT)
  obtain ⟨d1, d2⟩ := He.ba d
  refine ⟨?_, of_decide_eq_true d1, of_decide_eq_true d2⟩
  split at c
  · rename_i fo ro e1 e2
    refine ⟨fo, ro, e1, e2, fun m => ?_⟩
    rcases Bool.or_eq_true _ _ ▸ c with z | z
    · exfalso
      have z := of_decide_eq_true z
      simp only [List.mem_cons, List.not_mem_nil, or_false] at z m
      rcases z with rfl | rfl <;> simp at m
    · exact Bool.not_eq_true' _ ▸ z
  · cases c
section
variable {X : Cx} {CX : CXT} {k : Nat} {C f g : Addr} {fd : FuncData} {ps : List Str} {sp : Sp} {E : L2.St → XK}
theorem run_opS {pn : List (Addr × Obj)} {τ : L2.St} {H : Hp} {t : Shared} {W : VK} {vs : List V} {us : List Value} (F : FnOk X.prog X.w X.K X.mg X.base CX k f fd ps sp) (hr : Room k X.A) (hb : Binds X.K fd ps []) (out : PassesAt CX X τ (E τ))
    (I : Inv X pn τ H t) (r : Vals vs us) (h : sp vs H W (E τ)) : wpAny (model X.prog X.w) X.A (call (.ref f) us) (EP X pn τ W) X.xe t := run_fnS F hr hb out I r h
def rMulL (C : Addr) (sp : Sp) (E : L2.St → XK) : L2.St → R2 := fun τ x y H Q => ∃ a dx fs T, x = .ref a ∧ H a = some (.ins C dx fs) ∧ Pl H y T ∧ sp [.ref a, y] H Q (E τ)
theorem op_mulL (M : MulC X.K C f g) (F : FnOk X.prog X.w X.K X.mg X.base CX k f fd ps sp) (hr : Room k X.A) (hb : Binds X.K fd ps []) (out : ∀ τ, PassesAt CX X τ (E τ)) : OpS X (binaryOp .Mult) (rMulL C sp E) := by
  intro pn t τ G x y va vb W I rx ry h
  obtain ⟨a, dx, fs, T, rfl, ha, pl, q⟩ := h
  cases rx
  obtain ⟨oa, da, Ja⟩ := inst_of I ha
  obtain ⟨mm, Fm⟩ := I.fr
  have one := run_opS F hr hb (out τ) I (.cons (relRef _) (.cons ry .nil)) q
  have hT : T ∈ ["NoneType", "bool", "int", "str", "list"] := by cases pl <;> decide
  obtain ⟨⟨fo, ro, e1, e2, _⟩, n1, _⟩ := M.known T hT
  exact binL (op := .Mult) Fm I.mod.kin Ja (pl.looks I ry) M.self M.left.at_ M.left.fn M.right.at_ e1 e2 n1 (wpAny_mono one (fun _ _ z => back_ok z) fun _ _ z => z)
def rMulR (C : Addr) (sp : Sp) (E : L2.St → XK) : L2.St → R2 := fun τ x y H Q => ∃ a dx fs T, y = .ref a ∧ H a = some (.ins C dx fs) ∧ Pl H x T ∧ sp [.ref a, x] H Q (E τ)
theorem op_mulR (M : MulC X.K C f g) (F : FnOk X.prog X.w X.K X.mg X.base CX k g fd ps sp) (hr : Room k X.A) (hb : Binds X.K fd ps []) (out : ∀ τ, PassesAt CX X τ (E τ)) : OpS X (binaryOp .Mult) (rMulR C sp E) := by
  intro pn t τ G x y va vb W I rx ry h
  obtain ⟨a, dx, fs, T, rfl, ha, pl, q⟩ := h
  cases ry
  obtain ⟨oa, da, Ja⟩ := inst_of I ha
  obtain ⟨mm, Fm⟩ := I.fr
  have one := wpAny_mono (run_opS F hr hb (out τ) I (.cons (relRef _) (.cons rx .nil)) q) (fun _ _ z => back_ok z) fun _ _ z => z
  have look := pl.looks I rx
  have hT : T ∈ ["NoneType", "bool", "int", "str", "list"] := by cases pl <;> decide
  obtain ⟨⟨fo, ro, e1, e2, low⟩, _, n2⟩ := M.known T hT
  obtain ⟨mA, O, _⟩ := ins_get I.hok ha
  cases pl with
  | non => exact binN (op := .Mult) Fm I.mod.kin Ja look M.self M.left.at_ M.right.at_ M.right.fn e1 e2 (low (by decide)) one
  | str z => exact binN (op := .Mult) Fm I.mod.kin Ja look M.self M.left.at_ M.right.at_ M.right.fn e1 e2 (low (by decide)) one
  | lst e => exact binN (op := .Mult) Fm I.mod.kin Ja look M.self M.left.at_ M.right.at_ M.right.fn e1 e2 (low (by decide)) one
  | int n =>
    obtain ⟨kk, rfl⟩ := rx
    exact binD (op := .Mult) Fm I.mod.kin Ja (typeIs_int t n kk) look M.self M.left.at_ M.right.at_ M.right.fn PySem.F.fills_int_mul n2 PySem.F.slot_int_mul
      (fun R r => call_meets PySem.F.slot_int_mul (typeIs_int t n kk) PySem.F.entry_int_mul (PySem.F.args_int_mul_2 _ _) (mul_no n kk a C dx) ⟨O.obj, r⟩) one
  | bl b =>
    cases rx
    exact binD (op := .Mult) Fm I.mod.kin Ja (PySem.typeIs_bool t b) look M.self M.left.at_ M.right.at_ M.right.fn PySem.F.fills_bool_mul n2 PySem.F.slot_bool_mul
      (fun R r => call_meets PySem.F.slot_bool_mul (PySem.typeIs_bool t b) PySem.F.entry_int_mul (PySem.F.args_int_mul_2 _ _) (mul_noB b a C dx) ⟨O.obj, r⟩) one
end
end Tl

/-! Exceptions: X() of an own class, C(e) with an own __init__ where nothing is handled, a def called in an except suite that knows the exception, isinstance of it there. -/
namespace Tl
open PySem PySem.Spec PyProof.Rows L2
section
variable {X : Cx} {C : Addr} {bmB : List Value} {B newId initId : String}
/-- X() -/
theorem pmkN_own0 {x : Str} {p pos : Pos} (Fb : ExcBaseFacts B newId initId bmB) (hq : PySem.W.excIn X.K C bmB newId = true) (gC : X.mg x = some (.ref C)) (kC : PySem.W.keepIn X.K (.ref C) = true) (r : Raises X (.ref C)) (hg : Gl X x)
    (hdb : (x == ("__debug__" : Str)) = false := by decide) : L2N.PMk X (.Call (.Name x p) [] [] pos) (fun _ H Q => Q (.ref C) none H) := by
  intro pins s σ H Q I h
  refine wpAny_Call_Name_kw (ld_glob I hg gC ?_ hdb)
  refine PySem.W.callWith_K0 I.kIn kC ?_
  show wpAny _ _ (call (.ref C) []) _ _ _
  obtain ⟨bm, N, nm, qn, bs, hdct, sn, sub, ab, col, dd, k0, k1, k2, k3, k5, mN, hC, hN, hni, T⟩ := exc_obj I.kIn hq
  exact wpAny_call_exc_subT Fb T hC hN hni (fun h' e hm => L2N.mk_of I hm r h (I.hok.gone hm.new)) (Nat.zero_le _)
end
/-- C(e, ..) with an own __init__, nothing being handled -/
theorem pmkN_oex {X : Cx} {CX : CXT} {x : Str} {e : Expr} {es : List Expr} {ta : TA} {p pos : Pos} {C fI : Addr} {k : Nat} {fd : FuncData} {ps : List Str} {sp : Sp} (T : OexC X.K C) (iC : PySem.W.findIn X.K (.ref C) "__init__" = some (some (.ref fI))) (tI : PySem.W.typeIn X.K (.ref fI) = some (.type "function"))
    (Fi : FnOk X.prog X.w X.K X.mg X.base CX k fI fd ps sp) (hr : Room (k + 1) X.A) (hb : Binds X.K fd ps []) (hx : Passes CX X (fun _ _ _ => False)) (hg : Gl X x) (hm : X.mg x = some (.ref C)) (ha : PA X (e :: es) ta)
    (hdb : (x == ("__debug__" : Str)) = false := by decide) (he : starEach (e :: es) X.env = (false, eval e X.env) :: starEach es X.env := by rfl) (hpl : (backTo pos (starEach es X.env)).any (·.1) = false := by rfl) :
    L2N.PMk X (.Call (.Name x p) (e :: es) [] pos) (tMkO C sp [] ta) := by
  intro pins s σ H Q I h
  obtain ⟨nm, qn, N, bs, bm, sn, sub, ab, col, dd, k0, k1, k2, k3, k5, hC, hbm⟩ := T.cls
  refine wpAny_Call_Name_kw (ld_glob I hg hm ?_ hdb)
  refine PySem.W.callWith_K (h₀ := X.base) I.ok.mod.kin T.kC (thn (ha.run pos pins s σ H _ I h) fun us s1 ⟨vs, H1, I1, r1, hz, q1⟩ => ⟨I1.kIn, ?_⟩) he hpl
  show wpAny _ _ (call (.ref C) us) _ _ _
  obtain ⟨hh, gn, dr, tk, os⟩ := s1
  generalize hA : hh.objs.size + 1 = A
  have hle : hh.objs.size ≤ A := by
    rw [← hA]
    exact Nat.le_succ _
  have hq := q1 A (I1.hok.fresh hle)
  rw [List.append_nil] at hq
  generalize hG : (hh.push (PySem.W.kdv_tup us)).push (PySem.HandSPX.excO C hh.objs.size) = G
  have kk : ∀ b o, hh.get? b = some o → G.get? b = some o := fun b o z => by
    rw [← hG]
    exact Heap.get?_push_of_some _ (Heap.get?_push_of_some _ z)
  have hget : G.get? A = some (PySem.HandSPX.excO C hh.objs.size) := by
    rw [← hG, ← hA]
    heap_get
  have I2 : Inv X pins σ (upd H1 A (exo A C none)) ⟨G, gn, dr, tk, os⟩ := I1.laid (t' := tk) (a := A) (o := exo A C none) (h' := G) kk hle (exo_ok hget)
  have r2 : Vals (V.ref A :: vs) (Value.ref A :: us) := .cons rfl r1
  have hl : (Value.ref A :: us ++ []).length = ps.length := by
    rw [List.append_nil, ← Fi.len _ _ _ _ hq]
    exact r2.length.symm
  have hus : us.length ≤ sizeLine := by
    rw [← Paired.length r1, sizeLine_eq]
    omega
  have b2 := hb _ (Value.ref A :: us) I2.kIn hl
  rw [List.append_nil] at b2
  have run := Fi.run _ X.stack _ _ ⟨Value.ref A :: us, []⟩ (Value.ref A :: us) _ _ (fun _ _ _ => False) (hr.make C us []) (I2.env0.make C us []) b2 r2 hq
  subst hA hG
  refine wpAny_call (PySem.HandSPX.call_own F.excBase_ValueError (fun Y => PySem.HandSPX.refsVE_contains Y bm hbm) (I1.kIn _ _ hC) (PySem.W.looks_findIn I1.kIn iC) (fun self => PySem.W.bind_fn I1.kIn self tI) hus (codeAny_mono run fun r s' hq' => ?_))
  cases r with
  | error er => exact hx pins σ _ _ er s' I2 hq'
  | ok fl =>
    cases fl with
    | ret u =>
      obtain ⟨v, H2, os2, bare2, un2, hok2, rv, ev, d, fs, ea, ed, hd1, q2⟩ := hq'
      subst ev
      obtain ⟨h2, g2, d2, t2, os'⟩ := s'
      obtain ⟨t0, G2, J, kG, ge, hoe, na⟩ := mk_end0 (d2 := d2) (t2 := t2) I1 hle kk un2 hok2 os2 bare2 ea ed hd1
      refine ⟨rv, _, _, _, ⟨G2, g2, d2, t2, os'⟩, _, .ref C, some d, rfl, J, kG, ge, hoe, ⟨rfl, rfl, fun vs hv => ?_⟩, rfl, rfl, na, rfl, bare2, raises_own T.exC T.tyC, q2⟩
      cases hv
      rfl
    | next => exact False.elim hq'
    | brk => exact False.elim hq'
    | cont => exact False.elim hq'
end Tl

set_option autoImplicit false
set_option maxErrors 4
/-! Several clauses `except C as n`; isinstance of the exception that a suite holds, its dict there or not. -/
namespace Tl
open PySem PySem.Spec PyProof.Rows L2
open L2N (Zn)
/-- several clauses `except C as n` -/
def wNamed (K : PySem.W.Frag) (Wo : WX) (D : Ends) : List (Value × Nat × (Addr → Value → Option Addr → TS)) → WX
  | [] => Wo
  | (c, i, ts) :: more => fun cls d σ H => ∃ yes, PySem.W.exmOne K cls c = some yes ∧ (yes = false → wNamed K Wo D more cls d σ H) ∧
      (yes = true → ∀ a, H a = none → ts a cls d ⟨fun σ1 H1 => D.nx (σ1.set i none) H1, D.rt, fun σ1 H1 => D.bk (σ1.set i none) H1, fun σ1 H1 => D.ct (σ1.set i none) H1⟩ (σ.set i (some (.ref a))) H)
inductive Clauses (X : Cx) : List ExceptHandler → List (Value × Nat × (Addr → Value → Option Addr → TS)) → Prop
  | none : Clauses X [] []
  | more {x n : Str} {c : Value} {i : Nat} {ts : Addr → Value → Option Addr → TS} {st : Stmt} {sts : List Stmt} {p1 p2 : Pos} {hds : List ExceptHandler} {l : List (Value × Nat × (Addr → Value → Option Addr → TS))}
      (nm : Names X x c) (at_ : X.N[i]? = some n) (lo : X.env.kindOf n = some .local)
      (su : ∀ (a : Addr) (oe : Obj) (cls : Value) (d : Option Addr) (pn : List (Addr × Obj)), Zn cls d oe → (∃ vs, oe.data = .fields vs) → PSs (X.suite a ((a, oe) :: pn)) (st :: sts) (ts a cls d))
      (tl : Clauses X hds l) : Clauses X (.ExceptHandler (some (.Name x p1)) (some n) (st :: sts) p2 :: hds) ((c, i, ts) :: l)
/-- a caught exception at a, on the ground: what stood ahead of it, what it is -/
structure Down (X : Cx) (pins : List (Addr × Obj)) (σ : L2.St) (H : Hp) (cls : Value) (d : Option Addr) (a : Addr) (B : Heap) (s0 s3 : Shared) : Prop where
  inv : Inv X pins σ H s0
  low : ∀ b o, s0.heap.get? b = some o → b ∉ frs X.stack → B.get? b = some o
  up : s0.heap.UpToSlots s3.heap
  fly : HandSPX.FlyingZ B (X.env :: X.outer) a (Zn cls d) s3.heap
  os : s3.os = s0.os
  gs : AllBare s3.gens
  na : H a = none
section
variable {X : Cx} {pins : List (Addr × Obj)} {σ : L2.St} {H : Hp} {cls : Value} {d : Option Addr} {a : Addr} {B : Heap} {s0 s3 : Shared}
theorem Down.here (D : Down X pins σ H cls d a B s0 s3) : Inv X pins σ H s3 := D.inv.landed D.low D.fly.1 D.up D.os D.gs
theorem Down.next {hp : Heap} (D : Down X pins σ H cls d a B s0 s3) (f : HandSPX.FlyingZ B (X.env :: X.outer) a (Zn cls d) hp) (u : s3.heap.UpToSlots hp) : Down X pins σ H cls d a B s0 { s3 with heap := hp } :=
  ⟨D.inv, D.low, D.up.trans u, f, D.os, D.gs, D.na⟩
/-- the state as a suite sees it -/
theorem Down.inside (D : Down X pins σ H cls d a B s0 s3) (hf : X.env.frame = some X.env.locals) :
    ∃ oe vs, s3.heap.get? a = some oe ∧ Zn cls d oe ∧ oe.data = .fields vs ∧ Inv (X.suite a ((a, oe) :: (X.pn ++ pins))) [] σ H s3 := by
  obtain ⟨oe, vs, g, z, e⟩ := D.fly.there
  have off : a ∉ frs (X.env :: X.outer) := fun m => by
    obtain ⟨_, o2, g2, n2⟩ := D.fly.2.2.1.mem m
    rw [g] at g2
    cases g2
    exact n2 _ e
  refine ⟨oe, vs, g, z, e, D.here.suite g e D.na (fun q => off ?_) (fun m => off ?_)⟩
  · exact List.mem_filterMap.mpr ⟨_, List.mem_cons_self, by rw [hf, q]⟩
  · obtain ⟨v, vm, vq⟩ := List.mem_filterMap.mp m
    exact List.mem_filterMap.mpr ⟨v, List.mem_cons_of_mem _ vm, vq⟩
/-- one clause -/
theorem clause_one {x n : Str} {c : Value} {i : Nat} {yes : Bool} {ts : Addr → Value → Option Addr → TS} {st : Stmt} {sts : List Stmt} {p1 p2 : Pos} {hds : List ExceptHandler} {E : Ends}
    (D : Down X pins σ H cls d a B s0 s3) (hf : X.env.frame = some X.env.locals) (nd : X.N.Nodup) (nm : Names X x c) (at_ : X.N[i]? = some n) (lo : X.env.kindOf n = some .local)
    (su : ∀ (a : Addr) (oe : Obj) (cls : Value) (d : Option Addr) (pn : List (Addr × Obj)), Zn cls d oe → (∃ vs, oe.data = .fields vs) → PSs (X.suite a ((a, oe) :: pn)) (st :: sts) (ts a cls d))
    (hy : PySem.W.exmOne X.K cls c = some yes) (no : yes = false → wpAny (model X.prog X.w) X.A (handleBy (.ref a) X.env hds) (SP X pins E) X.xe s3)
    (ok : yes = true → ts a cls d ⟨fun σ1 H1 => E.nx (σ1.set i none) H1, E.rt, fun σ1 H1 => E.bk (σ1.set i none) H1, fun σ1 H1 => E.ct (σ1.set i none) H1⟩ (σ.set i (some (.ref a))) H) :
    wpAny (model X.prog X.w) X.A (handleBy (.ref a) X.env (.ExceptHandler (some (.Name x p1)) (some n) (st :: sts) p2 :: hds)) (SP X pins E) X.xe s3 := by
  obtain ⟨o1, w1, g1, z1, e1, I1⟩ := D.inside hf
  have TY : PySem.W.Looks (model X.prog X.w) s3.heap (typeOf (.ref a)) cls := fun _ _ _ _ k q => wpAny_typeOf_ref (k _ _ g1) (by rw [z1.1]; exact q)
  have asked := PySem.W.exm_one (M := model X.prog X.w) D.here.kIn TY hy
  refine wpAny_handleBy_cons (codeAny_handlers_test ?_) fun q => by cases q
  have word : ∀ {Q E : Value → Shared → Prop}, Q c s3 → wpAny (model X.prog X.w) (X.A.mark (some (.ref a))) (eval (.Name x p1) X.env) Q E s3 := by
    intro Q E q
    obtain ⟨gl, nb, mine | ⟨other, boot, nn⟩⟩ := nm
    · exact ld_glob I1 gl mine q nb
    · exact ld_blt I1 gl other boot q nn nb
  refine word (asked.here ?_)
  cases yes with
  | false => exact no rfl
  | true =>
    refine codeAny_handlers_suite_as (HandSPX.lands_againZ D.fly fun hp f u => ?_)
    have D2 := D.next f u
    obtain ⟨o2, w2, g2, z2, e2, I2⟩ := D2.inside hf
    refine store_ok (X := X.suite a ((a, o2) :: (X.pn ++ pins))) (v := .ref a) I2 nd at_ (.inl lo) rfl (fun s5 I5 => ?_) (.inr lo)
    refine wpAny_mono ((su a o2 cls d _ z2 ⟨_, e2⟩).run [] s5 _ H _ I5 (ok rfl)) (fun fl s6 h6 => ?_) fun _ _ z => z.elim
    have leave : ∀ {σ6 : L2.St} {H6 : Hp} {R : Shared → Prop}, Inv (X.suite a ((a, o2) :: (X.pn ++ pins))) [] σ6 H6 s6 → (∀ s7, Inv X pins (σ6.set i none) H6 s7 → R s7) →
        wpAny (model X.prog X.w) X.A (do bindName X.env n .none; unbindBehindTheSuite X.env n p2) (fun _ s7 => R s7) X.xe s6 := fun I6 r => gone_ok (I6.unsuite D.inv.ok) nd at_ lo r
    cases fl with
    | ret u =>
      obtain ⟨v6, _, _, I6, r6, q6⟩ := h6
      exact leave I6 fun _ I7 => ⟨v6, _, _, I7, r6, q6⟩
    | next =>
      obtain ⟨_, _, I6, q6⟩ := h6
      exact leave I6 fun _ I7 => ⟨_, _, I7, q6⟩
    | brk =>
      obtain ⟨_, _, I6, q6⟩ := h6
      exact leave I6 fun _ I7 => ⟨_, _, I7, q6⟩
    | cont =>
      obtain ⟨_, _, I6, q6⟩ := h6
      exact leave I6 fun _ I7 => ⟨_, _, I7, q6⟩
/-- no clause took it -/
theorem clause_none {Wo : WX} {Q : Flow → Shared → Prop} (D : Down X pins σ H cls d a B s0 s3) (hs : X.stack = X.env :: X.outer) (hf : X.env.frame = some X.env.locals) (tk : L2N.Takes X Wo) (q : Wo cls d σ H) :
    wpAny (model X.prog X.w) X.A (handleBy (.ref a) X.env []) Q X.xe s3 := by
  obtain ⟨_, _, _, oe, w, T, _, _, g, _, e, t1, _⟩ := id D.fly
  refine wpAny_handleBy_nil ?_
  unfold PySem.passOn
  refine wpAny_bind (wpAny_field g e t1 ?_)
  rw [if_neg (by simp)]
  have out : wpAny (model X.prog X.w) X.A (setFlight (.ref a) X.env.frame) (fun _ s4 => wpAny (model X.prog X.w) X.A (throw (.ref a) : Sem Flow) Q X.xe s4) X.xe s3 := by
    rw [hf]
    refine HandSPX.setFlight_upZ D.fly fun hp held u => wpAny_throw (tk _ _ ⟨a, B, s0, pins, σ, H, cls, d, rfl, D.inv, D.low, D.up.trans u, .inr (.inr (by rw [hs]; exact held)), D.na, D.os, D.gs, q⟩)
  first
    | exact wpAny_bind (wpAny_pure (wpAny_bind out))
    | exact wpAny_bind out
theorem clauses_run {Wo : WX} {E : Ends} (hs : X.stack = X.env :: X.outer) (hf : X.env.frame = some X.env.locals) (nd : X.N.Nodup) (tk : L2N.Takes X Wo) (D : Down X pins σ H cls d a B s0 s3) :
    ∀ {hds : List ExceptHandler} {l : List (Value × Nat × (Addr → Value → Option Addr → TS))}, Clauses X hds l → wNamed X.K Wo E l cls d σ H → wpAny (model X.prog X.w) X.A (handleBy (.ref a) X.env hds) (SP X pins E) X.xe s3 := by
  intro hds l cl
  induction cl with
  | none => exact fun q => clause_none D hs hf tk q
  | more nm at_ lo su tl ih =>
    rintro ⟨yes, hy, no, ok⟩
    exact clause_one D hf nd nm at_ lo su hy (fun n => ih (no n)) fun y => ok y a D.na
end
/-- try: body; except C1 as n: ..; except C2 as n: .. -/
theorem ps_try_named {X : Cx} {body : List Stmt} {h1 : ExceptHandler} {hds : List ExceptHandler} {l : List (Value × Nat × (Addr → Value → Option Addr → TS))} {pos : Pos} {tb : WX → TS} {Wo : WX}
    (hs : X.stack = X.env :: X.outer) (hf : X.env.frame = some X.env.locals) (nd : X.N.Nodup) (tk : L2N.Takes X Wo)
    (hb : ∀ (W : WX) (pn : List (Addr × Obj)) (xe : Value → Shared → Prop), L2N.Takes (X.tr pn xe) W → PassesOwn (model X.prog X.w) X.A X.env xe → PSs (X.tr pn xe) body (tb W))
    (cl : Clauses X (h1 :: hds) l) : PS X (.Try body (h1 :: hds) [] [] pos) (fun E σ H => tb (wNamed X.K Wo E l) E σ H) := by
  refine ⟨fun pins s σ H E I q => wpAny_Try_except (wpAny_mono ((hb _ (X.pn ++ pins) (fun u s1 => wpAny (model X.prog X.w) X.A (noteFrame u X.env) (fun _ s2 => wpAny (model X.prog X.w) X.A (setFlight u none) (fun _ s3 =>
    wpAny (model X.prog X.w) X.A (handleBy u X.env (h1 :: hds)) (SP X pins E) X.xe s3) X.xe s2) X.xe s1) (fun u s1 xx => ?_) PassesOwn.looking).run [] s σ H E (I.toTry _) q) (fun fl s1 h => ?_) fun _ _ z => z)⟩
  · obtain ⟨a, B, s0, pins2, σ1, H1, cls, d, rfl, J, low, up, sky, na, os, gs, w⟩ := xx
    have fr : X.A.frames = some (X.env :: X.outer) := by rw [I.ok.frames, hs]
    show wpAny _ X.A (noteFrame (.ref a) X.env) _ _ _
    refine L2N.Sky.land L2N.Zn.steady fr hf (by rw [← hs]; exact sky) fun hp fly u => ?_
    exact clauses_run hs hf nd tk (s0 := s0) (s3 := { s1 with heap := hp }) ⟨J.ofTry I.ok, low, up.trans u, fly, os, gs, na⟩ cl w
  · cases fl with
    | ret u =>
      obtain ⟨v, _, _, J, r, z⟩ := h
      exact ⟨v, _, _, J.ofTry I.ok, r, z⟩
    | next =>
      obtain ⟨_, _, J, z⟩ := h
      exact wpAny_execs_nil ⟨_, _, J.ofTry I.ok, z⟩
    | brk =>
      obtain ⟨_, _, J, z⟩ := h
      exact ⟨_, _, J.ofTry I.ok, z⟩
    | cont =>
      obtain ⟨_, _, J, z⟩ := h
      exact ⟨_, _, J.ofTry I.ok, z⟩
/-- isinstance(e, C), e the exception at p -/
def rIsP (K : PySem.W.Frag) (p : Addr × Obj) : List V → Hp → VK → Prop := fun xs H Q => ∃ (D : Addr) (d : Option Addr) (c : V) (cv : Value) (b : Bool), xs = [.ref p.1, c] ∧ ExcC K D ∧ Zn (.ref D) d p.2 ∧ (∃ vs, p.2.data = .fields vs) ∧
  (∀ dx, d = some dx → ∃ fs, H dx = some (.xd fs)) ∧ (∀ u, RelV c u → u = cv) ∧ PySem.W.kitOne K (.ref D) cv = some b ∧ Q (.bl b) H
theorem call_isP {X : Cx} {p : Addr × Obj} (hp : p ∈ X.pn) : CallR X (.builtin "isinstance") (rIsP X.K p) := by
  intro pins s σ H xs us Q I r h
  obtain ⟨D, d, c, cv, b, rfl, C, z, ⟨w, e⟩, hd, hc, hk, q⟩ := h
  cases r with
  | cons r1 rr =>
    cases rr with
    | cons r2 rr =>
      cases rr
      cases r1
      have ec := hc _ r2
      subst ec
      obtain ⟨g, _⟩ := I.pin p (List.mem_append.mpr (.inl hp))
      have cl : (PySem.W.clsIn X.K D).isSome = true := by
        obtain ⟨cd, h1, _⟩ := PySem.W.any_some C.hd
        rw [h1]
        rfl
      have J : ∃ od, PySem.W.InstAt s.heap p.1 p.2 D od := by
        cases d with
        | none => exact ⟨none, g, z.1, by unfold PySem.W.notCls; rw [e] <;> rfl, by rw [z.2.1]; trivial⟩
        | some dx =>
          obtain ⟨fs, hx⟩ := hd dx rfl
          obtain ⟨mA, hn, _⟩ : ObjOk X.prog X.w H s.heap dx (.xd fs) := I.hok dx _ hx
          obtain ⟨od, _, _, ho, _⟩ := hn
          exact ⟨some od, g, z.1, by unfold PySem.W.notCls; rw [e] <;> rfl, by rw [z.2.1]; exact ho⟩
      obtain ⟨od, J⟩ := J
      exact PySem.W.kia_one (PySem.W.kitx_exc cl C.hg C.hk C.hs C.ha C.hn C.ht C.hm) I.kIn J hk (fun z => nomatch z) fun tk => ⟨.bl b, H, I.kept (t' := tk) fun _ _ z => z, rfl, q⟩
end Tl

set_option autoImplicit false
set_option maxErrors 4
/-! Defs called within an except suite whose promise speaks of the exception that is handled. -/
namespace Tl
open PySem PySem.Spec PyProof.Rows L2
open L2N (Zn)
/-- the context handles p's object -/
def HotP (X : Cx) (p : Addr × Obj) : Prop := L2H.Hot1 X.A p ∧ p ∈ X.pn
theorem hotP_suite {X : Cx} {a : Addr} {oe : Obj} {cls : Value} {d : Option Addr} {pn : List (Addr × Obj)} (z : Zn cls d oe) (e : ∃ vs, oe.data = .fields vs) : HotP (X.suite a ((a, oe) :: pn)) (a, oe) := by
  obtain ⟨vs, e⟩ := e
  exact ⟨⟨rfl, vs, e, z.2.2 vs e⟩, List.mem_cons_self ..⟩
/-- what such a def promises: sp speaks of the exception, too -/
structure FnHP (P : Program) (w : World) (K : PySem.W.Frag) (mg : Str → Option Value) (base : Heap) (CX : CXT) (k : Nat) (f : Addr) (fd : FuncData) (ps : List Str) (sp : Addr × Obj → Sp) : Prop where
  many : ∀ p vs H Q E, sp p vs H Q E → vs.length = ps.length
  does : ∀ (p : Addr × Obj) (A : Around) (outer : List Env) (s : Shared) (H : Hp) (args : Args) (us : List Value) (vs : List V) (Q : VK) (E : XK), L2H.RoomH k A → L2H.Hot1 A p → L2H.PinOk outer H s p → Env0 P w K mg base A outer s H →
    BindsTo s fd args (ps.zip us) → Vals vs us → sp p vs H Q E → codeAny (model P w) A (.call (.ref f) args) (CR CX outer P w H s Q E) s
section
variable {P : Program} {w : World} {K : PySem.W.Frag} {mg : Str → Option Value} {base : Heap} {CX : CXT}
theorem fn_ofHP {k : Nat} {f : Addr} {name qual : Str} {params : Arguments} {body : List Stmt} {scope : Scope} {dV kV doc pm cdv ct oc : Value} {an od : Option Addr} {osl : Array (Option Value)} {N ps : List Str} {sp : Addr × Obj → Sp}
    (at_ : K.lookup f = some ⟨oc, od, .func (PySem.W.fnOf name qual params body scope dV kV doc pm an cdv ct), osl⟩) (code : PySem.W.codeIn K cdv qual = true) (S : FnScope N ps scope) (many : ∀ p vs H Q E, sp p vs H Q E → vs.length = ps.length)
    (inner : ∀ (p : Addr × Obj) (A : Around) (outer : List Env) (s : Shared) (H : Hp) (vs : List V) (Q : VK) (E : XK), L2H.Hot1 A p → L2H.RoomH k (A.deeper (envOfC qual scope s.heap.objs.size f cdv)) → sp p vs H Q E →
      ∃ t, PSs (L2H.cxH CX P w K mg base N qual scope f cdv A outer s H E p) body t ∧ t { nx := fun _ H' => Q .non H', rt := Q } (L2.start N vs) H) :
    FnHP P w K mg base CX (k + 1) f (PySem.W.fnOf name qual params body scope dV kV doc pm an cdv ct) ps sp := by
  refine ⟨many, fun p A outer s H args us vs Q E room hot pin e0 bd rel h => ?_⟩
  have kin : K.In s.heap := e0.mod.kin.keeps fun _ _ g => (e0.bs _ _ g).1
  have places : ∀ y ∈ ps.zip us, scope.names.lookup y.1 = some .local ∨ (scope.names.lookup y.1 = some .cell ∧ ((cellsFrom (s.heap.objs.size + 1) scope.names []).lookup y.1).isSome = true) := by
    rintro ⟨n, v⟩ hy
    cases S.par n (List.of_mem_zip hy).1 with
    | inl q => exact .inl q
    | inr q => exact .inr ⟨q, PySem.W.cellsFrom_some _ _ _ (.inl q)⟩
  refine codeAny_call_function room.depth (kin _ _ at_) rfl S.co S.gen rfl (PySem.W.codeRec_of kin code) (bd _ _ _ _ (wpAny_newFunctionEnv_cells S.kind places fun env he s1 x => ?_))
  subst he
  refine ⟨e0.mod.nolimit.keeps fun _ _ g => (x.toInCall.keep _ _ (e0.bs _ _ g).1), codeAny_func ?_⟩
  obtain ⟨t, ht, q⟩ := inner p A outer s H vs Q E hot (room.deeper _) h
  have I := L2H.inv_startH (CX := CX) (E := E) S pin e0 (many _ _ _ _ _ h) rel x
  refine wpAny_mono (ht.run [] s1 (L2.start N vs) H _ I q) (fun fl s2 h2 => ?_) fun _ _ z => z
  have done : ∀ {σ2 : L2.St} {H2 : Hp} {v : V} {u : Value}, Inv (L2H.cxH CX P w K mg base N qual scope f cdv A outer s H E p) [] σ2 H2 s2 → RelV v u → Q v H2 → CE outer P w H s Q u s2 :=
    fun J r q => ⟨_, _, J.os, J.bare, J.base, J.hok, r, q⟩
  cases fl with
  | next =>
    obtain ⟨_, _, J, q⟩ := h2
    exact done (v := V.non) (u := Value.none) J rfl q
  | ret u =>
    obtain ⟨_, _, _, J, r, q⟩ := h2
    exact done J r q
  | brk =>
    obtain ⟨_, _, _, q⟩ := h2
    exact q.elim
  | cont =>
    obtain ⟨_, _, _, q⟩ := h2
    exact q.elim
end
section
variable {X : Cx} {CX : CXT} {k : Nat} {f : Addr} {fd : FuncData} {ps : List Str} {sp : Addr × Obj → Sp} {E : L2.St → XK} {x : Str} {q pos : Pos} {e : Expr} {es : List Expr} {t : TA} {p : Addr × Obj}
theorem pe_callHP {sq : Sp} (F : FnHP X.prog X.w X.K X.mg X.base CX k f fd ps sp) (weak : ∀ vs H Q E, sq vs H Q E → sp p vs H Q E) (room : L2H.RoomH k X.A) (hot : HotP X p) (hg : Gl X x) (hm : X.mg x = some (.ref f)) (hk : PySem.W.keepIn X.K (.ref f) = true) (hb : Binds X.K fd ps []) (hx : ∀ σ, PassesAt CX X σ (E σ))
    (ha : PA X (e :: es) t) (hdb : (x == ("__debug__" : Str)) = false := by decide) (he : starEach (e :: es) X.env = (false, eval e X.env) :: starEach es X.env := by rfl) (hpl : (backTo pos (starEach es X.env)).any (·.1) = false := by rfl) :
    PE X (.Call (.Name x q) (e :: es) [] pos) (tCallS sq E t) := by
  refine ⟨fun pins s σ H Q I h => wpAny_Call_Name_kw (ld_glob I hg hm (PySem.W.callWith_K (h₀ := X.base) I.ok.mod.kin hk (thn (ha.run pos pins s σ H _ I h) fun us s1 ⟨vs, H1, I1, r, y⟩ => ⟨I1.kIn, ?_⟩) he hpl) hdb)⟩
  have z := weak _ _ _ _ y
  have n : us.length = ps.length := r.length.symm.trans (F.many _ _ _ _ _ z)
  have b := hb s1 us I1.kIn (by rw [List.append_nil]; exact n)
  rw [List.append_nil] at b
  obtain ⟨g, fr, ne, nf, nc⟩ := I1.pin p (List.mem_append_left _ hot.2)
  have off : p.1 ∉ frs X.stack := fun m => by
    cases List.mem_cons.mp (I1.stkSub p.1 m) with
    | inl y => exact ne y
    | inr y => exact nf y
  refine wpAny_call (codeAny_mono (F.does p X.A X.stack s1 H1 ⟨us, []⟩ us vs Q (E σ) room hot.1 ⟨g, fr, off, nc⟩ I1.env0 b r z) fun res s2 y => ?_)
  cases res with
  | error er => exact hx σ pins H1 s1 er s2 I1 y
  | ok fl =>
    cases fl with
    | ret u => exact I1.after y
    | next => exact y.elim
    | brk => exact y.elim
    | cont => exact y.elim
end
end Tl

set_option autoImplicit false
set_option maxErrors 4
/-! A family of exception classes of the program: what the head reads of them. -/
namespace Tl
open PySem PySem.Spec PyProof.Rows L2
section
variable {K : PySem.W.Frag} {C : Addr}
def excCB (K : PySem.W.Frag) (D : Addr) : Bool := He.eqO (PySem.W.findIn K (.ref D) "__getattribute__") (some (some (.builtin "BaseException.__getattribute__"))) && (He.eqO (PySem.W.findIn K (.ref D) "__getattr__") (some none) &&
  (decide (PySem.W.subIn K (.ref D) (.type "BaseException") = some true) && (PySem.W.hasDictIn K D && (He.eqO (PySem.W.findIn K (.ref D) "__class__") (some (some (.builtin "object.__class__"))) &&
  (He.eqO (PySem.W.specialIn K (.builtin "object.__class__") "__get__") (some (some (.builtin "getset_descriptor.__get__"))) && (decide (PySem.W.takesIn K (.builtin "object.__class__") = some true) && decide (PySem.W.mroIn K D (.type "object") = some true)))))))
theorem excCB_ok (h : excCB K C = true) : ExcC K C := by
  obtain ⟨a1, h⟩ := He.ba h
  obtain ⟨a2, h⟩ := He.ba h
  obtain ⟨a3, h⟩ := He.ba h
  obtain ⟨a4, h⟩ := He.ba h
  obtain ⟨a5, h⟩ := He.ba h
  obtain ⟨a6, h⟩ := He.ba h
  obtain ⟨a7, h⟩ := He.ba h
  exact ⟨He.eqO_ok a1, He.eqO_ok a2, of_decide_eq_true a3, a4, He.eqO_ok a5, He.eqO_ok a6, of_decide_eq_true a7, of_decide_eq_true h⟩
/-- the class object of an exception class with an own __init__ -/
def oexO (C : Addr) : Option Obj → Bool
  | some ⟨.type "type", _, .cls cd, sl⟩ => (match cd.mro, sl.toList with
    | .ref D :: bm, [_, _, _, _, some (.builtin n), _] => decide (D = C) && (decide (n = "ValueError.__new__") && (!cd.hasDel && (cd.hasDict && PySem.HandSPX.refsVE bm)))
    | _, _ => false)
  | _ => false
theorem oexO_ok {r : Option Obj} (h : oexO C r = true) : ∃ nm q N bs bm sn sub ab col dd k0 k1 k2 k3 k5, r = some (excClassObj nm q C N bs bm true sn sub ab col dd k0 k1 k2 k3 k5 "ValueError.__new__") ∧ PySem.HandSPX.refsVE bm = true := by
  unfold oexO at h
  split at h
  · rename_i dd cd sl
    split at h
    · rename_i D bm k0 k1 k2 k3 n k5 hm hs
      obtain ⟨e1, h1⟩ := He.ba h
      obtain ⟨e2, h2⟩ := He.ba h1
      obtain ⟨e3, h3⟩ := He.ba h2
      obtain ⟨e4, h4⟩ := He.ba h3
      have e1 := of_decide_eq_true e1
      have e2 := of_decide_eq_true e2
      subst e1 e2
      obtain ⟨nm, bs, mro, ns, qn, hd, sn, sub, ab, col, de⟩ := cd
      dsimp only at hm e3 e4
      have e3 : de = false := by simpa using e3
      subst hm e3 e4
      have es : sl = #[k0, k1, k2, k3, some (.builtin "ValueError.__new__"), k5] := by
        obtain ⟨l⟩ := sl
        simp only at hs
        rw [hs]
      subst es
      exact ⟨nm, qn, ns, bs, bm, sn, sub, ab, col, dd, k0, k1, k2, k3, k5, rfl, h4⟩
    · cases h
  · cases h
def oexB (K : PySem.W.Frag) (C : Addr) : Bool := oexO C (K.lookup C) && (He.eqO (PySem.W.findIn K (.ref C) "__setattr__") (some (some (.builtin "object.__setattr__"))) && (decide (PySem.W.subIn K (.ref C) (.type "BaseException") = some true) &&
  (decide (PySem.W.typeIn K (.ref C) = some (.type "type")) && PySem.W.keepIn K (.ref C))))
theorem oexB_ok (h : oexB K C = true) : OexC K C := by
  obtain ⟨a1, h⟩ := He.ba h
  obtain ⟨a2, h⟩ := He.ba h
  obtain ⟨a3, h⟩ := He.ba h
  obtain ⟨a4, h⟩ := He.ba h
  obtain ⟨nm, q, N, bs, bm, sn, sub, ab, col, dd, k0, k1, k2, k3, k5, e, r⟩ := oexO_ok a1
  exact ⟨⟨nm, q, N, bs, bm, sn, sub, ab, col, dd, k0, k1, k2, k3, k5, e, r⟩, He.eqO_ok a2, of_decide_eq_true a3, of_decide_eq_true a4, h⟩
end
/-- the address of the i-th name -/
def cA (K : PySem.W.Frag) (cn : List Str) (i : Nat) : Addr := He.ga K (cn.getD i "")
def pairB (K : PySem.W.Frag) (cn : List Str) : Bool := (List.range cn.length).all fun i => (List.range cn.length).all fun j =>
  decide (PySem.W.kitOne K (.ref (cA K cn i)) (.ref (cA K cn j)) = some (decide (i = j))) && decide (PySem.W.exmOne K (.ref (cA K cn i)) (.ref (cA K cn j)) = some (decide (i = j)))
def eachB (K : PySem.W.Frag) (cn : List Str) : Bool := (List.range cn.length).all fun i => excCB K (cA K cn i) && (decide (PySem.W.exmOne K (.ref (cA K cn i)) (.ref (He.ga K "TownError")) = some true) && decide (PySem.W.kitOne K (.ref (cA K cn i)) (.type "ValueError") = some true))
def ownB (K : PySem.W.Frag) (cn : List Str) (n : Nat) : Bool := (List.range cn.length).all fun i => decide (i < n) || (oexB K (cA K cn i) && xfB K (cA K cn i))
def townB (K : PySem.W.Frag) (cn : List Str) (n : Nat) : Bool := eachB K cn && (pairB K cn && ownB K cn n)
structure Town (K : PySem.W.Frag) (cn : List Str) (n : Nat) : Prop where
  exc : ∀ i, i < cn.length → ExcC K (cA K cn i)
  base : ∀ i, i < cn.length → PySem.W.exmOne K (.ref (cA K cn i)) (.ref (He.ga K "TownError")) = some true
  ve : ∀ i, i < cn.length → PySem.W.kitOne K (.ref (cA K cn i)) (.type "ValueError") = some true
  is : ∀ i j, i < cn.length → j < cn.length → PySem.W.kitOne K (.ref (cA K cn i)) (.ref (cA K cn j)) = some (decide (i = j))
  ca : ∀ i j, i < cn.length → j < cn.length → PySem.W.exmOne K (.ref (cA K cn i)) (.ref (cA K cn j)) = some (decide (i = j))
  own : ∀ i, n ≤ i → i < cn.length → OexC K (cA K cn i)
  fld : ∀ i, n ≤ i → i < cn.length → XfC K (cA K cn i)
theorem townB_ok {K : PySem.W.Frag} {cn : List Str} {n : Nat} (h : townB K cn n = true) : Town K cn n := by
  obtain ⟨e, h⟩ := He.ba h
  obtain ⟨p, o⟩ := He.ba h
  have e1 := fun i (hi : i < cn.length) => He.ba (List.all_eq_true.mp e i (List.mem_range.mpr hi))
  have p1 := fun i j (hi : i < cn.length) (hj : j < cn.length) => He.ba (List.all_eq_true.mp (List.all_eq_true.mp p i (List.mem_range.mpr hi)) j (List.mem_range.mpr hj))
  have o1 : ∀ i, n ≤ i → i < cn.length → oexB K (cA K cn i) = true ∧ xfB K (cA K cn i) = true := fun i hn hi => by
    have z := List.all_eq_true.mp o i (List.mem_range.mpr hi)
    rw [Bool.or_eq_true, decide_eq_true_eq] at z
    exact z.elim (fun y => absurd y (Nat.not_lt.mpr hn)) He.ba
  exact ⟨fun i hi => excCB_ok (e1 i hi).1, fun i hi => of_decide_eq_true (He.ba (e1 i hi).2).1, fun i hi => of_decide_eq_true (He.ba (e1 i hi).2).2, fun i j hi hj => of_decide_eq_true (p1 i j hi hj).1, fun i j hi hj => of_decide_eq_true (p1 i j hi hj).2,
    fun i hn hi => oexB_ok (o1 i hn hi).1, fun i hn hi => xfB_ok (o1 i hn hi).2⟩
end Tl

set_option autoImplicit false
set_option maxErrors 4
/-! What the head reads of two own classes and two errors. -/
namespace Tl
open PySem PySem.Spec PyProof.Rows L2
section
variable {K : PySem.W.Frag} {S D A B T : Addr}
/-- isinstance reads the class of an instance -/
structure Sees (K : PySem.W.Frag) (S : Addr) : Prop where
  c1 : PySem.W.findIn K (.ref S) "__class__" = some (some (.builtin "object.__class__"))
  c2 : PySem.W.specialIn K (.builtin "object.__class__") "__get__" = some (some (.builtin "getset_descriptor.__get__"))
  c3 : PySem.W.takesIn K (.builtin "object.__class__") = some true
  c4 : PySem.W.mroIn K S (.type "object") = some true
def seesB (K : PySem.W.Frag) (S : Addr) : Bool := (He.eqO (PySem.W.findIn K (.ref S) "__class__") (some (some (.builtin "object.__class__"))) && He.eqO (PySem.W.specialIn K (.builtin "object.__class__") "__get__") (some (some (.builtin "getset_descriptor.__get__")))) &&
  (decide (PySem.W.takesIn K (.builtin "object.__class__") = some true) && decide (PySem.W.mroIn K S (.type "object") = some true))
theorem seesB_ok (h : seesB K S = true) : Sees K S := by
  obtain ⟨a, b⟩ := He.ba h
  obtain ⟨a1, a2⟩ := He.ba a
  obtain ⟨b1, b2⟩ := He.ba b
  exact ⟨He.eqO_ok a1, He.eqO_ok a2, of_decide_eq_true b1, of_decide_eq_true b2⟩
theorem Sees.ty {H : Hp} {a dx : Addr} {fs : List (Str × V)} (s : Sees K S) (c : Cls K S) (e : H a = some (.ins S dx fs)) : TyX K H (.ref a) (.ref S) := .base (.ins e c s.c1 s.c2 s.c3 s.c4)
/-- no built-in value is an S; an S is none of these; a D is no S and no text -/
structure Apart (K : PySem.W.Frag) (S D : Addr) : Prop where
  no : ∀ t ∈ ["NoneType", "bool", "int", "str", "list", "tuple", "dict"], PySem.W.kitOne K (.type t) (.ref S) = some false
  own : PySem.W.kitOne K (.ref S) (.ref S) = some true
  off : ∀ t ∈ ["str", "list", "tuple", "int", "bool"], PySem.W.kitOne K (.ref S) (.type t) = some false
  dS : PySem.W.kitOne K (.ref D) (.ref S) = some false
  dOff : ∀ t ∈ ["str", "list", "tuple", "int", "bool"], PySem.W.kitOne K (.ref D) (.type t) = some false
def apartB (K : PySem.W.Frag) (S D : Addr) : Bool := ((["NoneType", "bool", "int", "str", "list", "tuple", "dict"].all fun t => decide (PySem.W.kitOne K (.type t) (.ref S) = some false)) && decide (PySem.W.kitOne K (.ref S) (.ref S) = some true)) &&
  ((["str", "list", "tuple", "int", "bool"].all fun t => decide (PySem.W.kitOne K (.ref S) (.type t) = some false)) && (decide (PySem.W.kitOne K (.ref D) (.ref S) = some false) && (["str", "list", "tuple", "int", "bool"].all fun t => decide (PySem.W.kitOne K (.ref D) (.type t) = some false))))
theorem apartB_ok (h : apartB K S D = true) : Apart K S D := by
  obtain ⟨a, b⟩ := He.ba h
  obtain ⟨a1, a2⟩ := He.ba a
  obtain ⟨b1, b⟩ := He.ba b
  obtain ⟨b2, b3⟩ := He.ba b
  exact ⟨fun t ht => of_decide_eq_true (List.all_eq_true.mp a1 t ht), of_decide_eq_true a2, fun t ht => of_decide_eq_true (List.all_eq_true.mp b1 t ht), of_decide_eq_true b2, fun t ht => of_decide_eq_true (List.all_eq_true.mp b3 t ht)⟩
/-- two errors under T: A without an __init__, B with one -/
structure Errs (K : PySem.W.Frag) (A B T : Addr) : Prop where
  eA : ExcC K A
  eB : ExcC K B
  mA : PySem.W.exmOne K (.ref A) (.ref A) = some true
  mB : PySem.W.exmOne K (.ref B) (.ref B) = some true
  tA : PySem.W.kitOne K (.ref A) (.ref T) = some true
  vA : PySem.W.kitOne K (.ref A) (.type "ValueError") = some true
  oB : OexC K B
  xB : XfC K B
def errsB (K : PySem.W.Frag) (A B T : Addr) : Bool := ((excCB K A && excCB K B) && (decide (PySem.W.exmOne K (.ref A) (.ref A) = some true) && decide (PySem.W.exmOne K (.ref B) (.ref B) = some true))) &&
  ((decide (PySem.W.kitOne K (.ref A) (.ref T) = some true) && decide (PySem.W.kitOne K (.ref A) (.type "ValueError") = some true)) && (oexB K B && xfB K B))
theorem errsB_ok (h : errsB K A B T = true) : Errs K A B T := by
  obtain ⟨a, b⟩ := He.ba h
  obtain ⟨a1, a2⟩ := He.ba a
  obtain ⟨b1, b2⟩ := He.ba b
  obtain ⟨c1, c2⟩ := He.ba a1
  obtain ⟨c3, c4⟩ := He.ba a2
  obtain ⟨c5, c6⟩ := He.ba b1
  obtain ⟨c7, c8⟩ := He.ba b2
  exact ⟨excCB_ok c1, excCB_ok c2, of_decide_eq_true c3, of_decide_eq_true c4, of_decide_eq_true c5, of_decide_eq_true c6, oexB_ok c7, xfB_ok c8⟩
end
end Tl

set_option autoImplicit false
set_option maxErrors 4
/-! a op b of one own class that may raise; a == xs; a def held in a local name; for x in xs, xs a list or a tuple. -/
namespace Tl
open PySem PySem.Spec PyProof.Rows L2
section
variable {X : Cx} {CX : CXT} {k : Nat} {C f : Addr} {fd : FuncData} {ps : List Str} {sp : Sp} {E : L2.St → XK}
def rBinE (C : Addr) (sp : Sp) (E : L2.St → XK) : L2.St → R2 := fun τ x y H Q => ∃ a dx fs b dy gs, x = .ref a ∧ y = .ref b ∧ H a = some (.ins C dx fs) ∧ H b = some (.ins C dy gs) ∧ sp [.ref a, .ref b] H Q (E τ)
theorem op_binE {op : Operator} (hc : PySem.W.selfFirst X.K C = true) (M : OpC X.K C (PySem.dunder op.info.2) f) (F : FnOk X.prog X.w X.K X.mg X.base CX k f fd ps sp) (hr : Room k X.A) (hb : Binds X.K fd ps []) (out : ∀ τ, PassesAt CX X τ (E τ)) :
    OpS X (binaryOp op) (rBinE C sp E) := by
  intro pn t τ G x y va vb W I rx ry h
  obtain ⟨a, dx, fs, b, dy, gs, rfl, rfl, ha, hb2, q⟩ := h
  cases rx
  cases ry
  obtain ⟨oa, da, Ja⟩ := inst_of I ha
  obtain ⟨ob, db, Jb⟩ := inst_of I hb2
  obtain ⟨mm, Fm⟩ := I.fr
  have one := run_opS F hr hb (out τ) I (.cons (relRef _) (.cons (relRef _) .nil)) q
  exact PySem.W.binop_K Fm I.mod.kin Ja Jb.type hc M.at_ M.fn (wpAny_mono one (fun _ _ z => back_ok z) fun _ _ z => z)
/-- a == xs, xs a list -/
def rEqXs (C : Addr) (sp : Sp) : R2 := fun x y H Q => ∃ a dx fs b xs, x = .ref a ∧ y = .ref b ∧ H a = some (.ins C dx fs) ∧ H b = some (.lst xs) ∧ sp [.ref a, .ref b] H Q E0
theorem op_eqXs (nf : PySem.W.notFirst X.K C (.type "list") = true) (M : OpC X.K C "__eq__" f) (F : FnOk X.prog X.w X.K X.mg X.base CX k f fd ps sp) (hr : Room k X.A) (hb : Binds X.K fd ps []) (hx : Passes CX X E0) : OpR X (compareOp .Eq) (rEqXs C sp) := by
  intro pn t τ G x y va vb W I rx ry h
  obtain ⟨a, dx, fs, b, xs, rfl, rfl, ha, hb2, q⟩ := h
  have look := (Pl.lst hb2).looks I ry
  cases rx
  cases ry
  obtain ⟨oa, da, Ja⟩ := inst_of I ha
  obtain ⟨mm, Fm⟩ := I.fr
  have one := run_op F hr hb hx I (.cons (relRef _) (.cons (relRef b) .nil)) q
  exact PySem.W.cmp_K (op := .Eq) (Nat.lt_of_succ_lt (hu_of hr)) Fm I.mod.kin Ja look nf M.at_ M.fn (wpAny_mono one (fun _ _ z => back_ok z) fun _ _ z => z)
end
section
variable {X : Cx} {CX : CXT} {j i : Nat} {E : L2.St → XK} {x : Str} {e : Expr} {es : List Expr} {t : TA} {p pos : Pos}
/-- the def is told by the reading -/
def tHeld (P : Program) (w : World) (K : PySem.W.Frag) (mg : Str → Option Value) (base : Heap) (CX : CXT) (j i : Nat) (E : L2.St → XK) (t : TA) : TE := fun σ H Q => ∃ f : Addr, σ[i]? = some (some (.ref f)) ∧ PySem.W.keepIn K (.ref f) = true ∧
  t σ H fun vs H1 => ∃ (fd : FuncData) (ps : List Str) (k : Nat) (sp : Sp), k ≤ j ∧ FnOk P w K mg base CX k f fd ps sp ∧ Binds K fd ps [] ∧ sp vs H1 Q (E σ)
theorem pe_held (hr : Room j X.A) (out : ∀ σ, PassesAt CX X σ (E σ)) (hN : X.N[i]? = some x) (hv : Vis X.env.scope x) (ha : PA X (e :: es) t) (hd : (x == ("__debug__" : Str)) = false := by decide) (hcd : (x == ("__classdict__" : Str)) = false := by decide)
    (he : starEach (e :: es) X.env = (false, eval e X.env) :: starEach es X.env := by rfl) (hpl : (backTo pos (starEach es X.env)).any (·.1) = false := by rfl) :
    PE X (.Call (.Name x p) (e :: es) [] pos) (tHeld X.prog X.w X.K X.mg X.base CX j i E t) := by
  refine ⟨fun pins s σ H Q I h => ?_⟩
  obtain ⟨f, hs, kp, h⟩ := h
  refine wpAny_Call_Name_kw (thn ((pe_var (pos := p) (i := i) hN hv hd hcd).run pins s σ H (fun v H1 => v = .ref f ∧ H1 = H) I ⟨.ref f, hs, rfl, rfl⟩) fun u s1 z => ?_)
  obtain ⟨v, H1, I1, r1, ev, eH⟩ := z
  subst ev eH
  cases r1
  refine PySem.W.callWith_K (h₀ := X.base) I.ok.mod.kin kp (thn (ha.run pos pins s1 σ _ _ I1 h) fun us s2 z => ?_) he hpl
  obtain ⟨vs, H2, I2, r, fd, ps, k, sp, hk, F, b, q⟩ := z
  exact ⟨I2.kIn, run_opS F (hr.mono hk) b (out σ) I2 r q⟩
/-- what a list or a tuple gives -/
def iSeq (K : PySem.W.Frag) (tl : TE) : TI := fun σ H R => tl σ H fun x H1 => ∃ a, x = .ref a ∧ (((∃ xs, SqL K H1 a xs) ∧ R (Itl K a) H1) ∨ ((∃ xs, SqT K H1 a xs) ∧ R (Itt K a) H1))
theorem pi_seq {tg l : Expr} {tl : TE} (hl : PE X l tl) : PI X tg l (iSeq X.K tl) := by
  refine ⟨fun pn t τ G R I h => thn (hl.run pn t τ G _ I h) fun v t1 z => ?_⟩
  obtain ⟨y, G1, I1, ry, a, rfl, z⟩ := z
  cases ry
  have one : ∀ b, b = t1.heap.objs.size → FpOk X pn G1 b := fun b e => by
    subst e
    exact I1.fpOk (Nat.le_refl _) (I1.hok.fresh (Nat.le_refl _))
  rcases z with ⟨⟨xs, sq⟩, r⟩ | ⟨⟨xs, sq⟩, r⟩
  · obtain ⟨its, rv, p, _⟩ := I1.list sq
    exact wpAny_pyIter_list p.isList ⟨t1.heap.objs.size, [t1.heap.objs.size], _, _, G1, rfl, I1.kept (t' := t1.toks) fun b o e => Heap.get?_push_of_some _ e, turn_list a _, ⟨_, Heap.get?_push_size _ rfl, rfl, rfl⟩, fun b hb => one b (by simpa using hb), r⟩
  · obtain ⟨its, rv, p, _⟩ := I1.tuple sq
    exact wpAny_pyIter_tuple (show t1.heap.IsTuple a its.toArray from p) ⟨t1.heap.objs.size, [t1.heap.objs.size], _, _, G1, rfl, I1.kept (t' := t1.toks) fun b o e => Heap.get?_push_of_some _ e, turn_tuple a _, ⟨_, Heap.get?_push_size _ rfl, rfl, rfl⟩, fun b hb => one b (by simpa using hb), r⟩
end
end Tl

set_option autoImplicit false
set_option maxErrors 4
/-! a | b, a & b, a - b, one operand an instance of an own class C that has the operator and its reflected one, the other of any other type. -/
namespace Tl
open PySem PySem.Spec PyProof.Rows L2
/-- a value with its type: a built-in one or an own class -/
inductive Fo (H : Hp) : V → Value → Prop
  | non : Fo H .non (.type "NoneType")
  | bl (b : Bool) : Fo H (.bl b) (.type "bool")
  | int (n : Int) : Fo H (.int n) (.type "int")
  | str (z : Str) : Fo H (.str z) (.type "str")
  | lst {a : Addr} {xs : List V} : H a = some (.lst xs) → Fo H (.ref a) (.type "list")
  | tup {a : Addr} {xs : List V} : H a = some (.tup xs) → Fo H (.ref a) (.type "tuple")
  | dct {a : Addr} {kvs : List (Key × V)} : H a = some (.dK kvs) → Fo H (.ref a) (.type "dict")
  | ins {a D dx : Addr} {fs : List (Str × V)} : H a = some (.ins D dx fs) → Fo H (.ref a) (.ref D)
theorem Fo.same {H H' : Hp} {x : V} {t : Value} (h : Fo H x t) (s : ∀ b o, H b = some o → H' b = some o) : Fo H' x t := by
  cases h with
  | non => exact .non
  | bl b => exact .bl b
  | int n => exact .int n
  | str z => exact .str z
  | lst e => exact .lst (s _ _ e)
  | tup e => exact .tup (s _ _ e)
  | dct e => exact .dct (s _ _ e)
  | ins e => exact .ins (s _ _ e)
theorem Fo.looks {X : Cx} {pn : List (Addr × Obj)} {τ : L2.St} {H : Hp} {t : Shared} {x : V} {u tv : Value} (p : Fo H x tv) (I : Inv X pn τ H t) (r : RelV x u) : PySem.W.Looks (model X.prog X.w) t.heap (typeOf u) tv := by
  cases p with
  | non =>
    cases r
    exact PySem.W.Looks.of_pure rfl
  | bl b =>
    cases r
    exact PySem.W.Looks.of_pure rfl
  | int n =>
    obtain ⟨k, rfl⟩ := r
    exact PySem.W.Looks.of_pure rfl
  | str z =>
    obtain ⟨k, rfl⟩ := r
    exact PySem.W.Looks.of_pure rfl
  | @lst a xs e =>
    cases r
    obtain ⟨_, its, n, _, g⟩ := (show ObjOk X.prog X.w H t.heap a (.lst xs) from I.hok a _ e)
    intro _ _ _ _ keep q
    exact wpAny_typeOf_ref (keep _ _ g) q
  | @tup a xs e =>
    cases r
    obtain ⟨_, its, _, ob, g, c⟩ := (show ObjOk X.prog X.w H t.heap a (.tup xs) from I.hok a _ e)
    intro _ _ _ _ keep q
    exact wpAny_typeOf_ref (keep _ _ g) (by rw [c.1]; exact q)
  | @dct a kvs e =>
    cases r
    obtain ⟨_, _, vs, _, ob, es, ep, g, c, _⟩ := (show ObjOk X.prog X.w H t.heap a (.dK kvs) from I.hok a _ e)
    intro _ _ _ _ keep q
    exact wpAny_typeOf_ref (keep _ _ g) (by rw [c.1]; exact q)
  | @ins a D dx fs e =>
    cases r
    obtain ⟨ox, od, J⟩ := inst_of I e
    exact J.type
section
variable {prog : Program} {w : World} {M : Model} {A : Around} {E' : Value → Shared → Prop} {s : Shared} {K : PySem.W.Frag} {x C D f g L : Addr} {h₀ : Heap} {m : Str → Option Value} {ox : Obj} {od : Option Obj} {tb : Value} {op : Operator} {b : Value} {Q : Value → Shared → Prop}
/-- a class right under object without the operator has no slot -/
theorem fills_no {nm : String} {h : Heap} {cd : PySem.ClassData} (X : K.In h) (hc : PySem.W.clsIn K D = some cd) (hm : cd.mro = [.ref D, .type "object"])
    (h1 : PySem.W.findIn K (.ref D) (PySem.dunder nm) = some none) (h2 : PySem.W.findIn K (.ref D) (dunderR nm) = some none)
    (h3 : PySem.W.findIn K (.type "object") (PySem.dunder nm) = some none) (h4 : PySem.W.findIn K (.type "object") (dunderR nm) = some none) : PySem.W.Looks M h (fillsNumberSlot (.ref D) nm) false := by
  intro A Q E s k q
  have Lm : PySem.W.Looks M h (mroOf (.ref D)) cd.mro := (PySem.W.looks_clsIn X hc).andThen (f := fun cd => pure cd.mro) .now
  have Lm' := Lm.keeps k
  obtain ⟨hh, gg, d, tt, os⟩ := s
  have X' : K.In hh := X.keeps k
  have L1 : PySem.W.Looks M hh (typeLookup (.ref D) (PySem.dunder nm)) none := PySem.W.looks_findIn X' h1
  have L2 : PySem.W.Looks M hh (typeLookup (.ref D) (dunderR nm)) none := PySem.W.looks_findIn X' h2
  have L3 : PySem.W.Looks M hh (typeLookup (.type "object") (PySem.dunder nm)) none := PySem.W.looks_findIn X' h3
  have L4 : PySem.W.Looks M hh (typeLookup (.type "object") (dunderR nm)) none := PySem.W.looks_findIn X' h4
  unfold fillsNumberSlot
  refine wpAny_bind (Lm'.at ?_)
  rw [hm, List.anyM_cons]
  refine wpAny_bind ?_
  simp only [List.anyM_cons, List.anyM_nil]
  ksp_lk
  exact q
/-- the left operand an instance, the right one of a type without the slot -/
theorem binF (F : Fr h₀ L s.heap m) (X₀ : K.In h₀) (J : PySem.W.InstAt s.heap x ox C od) (hb : PySem.W.Looks (model prog w) s.heap (typeOf b) tb) (unlike : (Value.ref C == tb) = false) (hc : PySem.W.selfFirst K C = true)
    (hs : PySem.W.findIn K (.ref C) (PySem.dunder op.info.2) = some (some (.ref f))) (hf : PySem.W.isFn K (.ref f) = true) (no : PySem.W.Looks (model prog w) s.heap (fillsNumberSlot tb op.info.2) false)
    (h : wpAny (model prog w) A (call (.ref f) [.ref x, b]) (PySem.W.CmpBack Q) E' s) : wpAny (model prog w) A (binaryOp op (.ref x) b) Q E' s := by
  have Xk := X₀.keeps F.keep
  obtain ⟨cd, rest, hcd, hm⟩ := PySem.W.ksp_first hc
  rcases hi : op.info with ⟨sym, nm'⟩
  rw [hi] at hs no
  dsimp only at hs no
  have tried := PySem.W.ksp_try Xk J hs hf h
  obtain ⟨hh, gg, d, tt, os⟩ := s
  have A1 : PySem.W.Looks (model prog w) hh (typeOf (.ref x)) (.ref C) := J.type
  have A2 : PySem.W.Looks (model prog w) hh (typeOf b) tb := hb
  have A3 : PySem.W.Looks (model prog w) hh (fillsNumberSlot (.ref C) nm') true := PySem.W.fills_K Xk hcd hm hs
  have A4 : PySem.W.Looks (model prog w) hh (fillsNumberSlot tb nm') false := no
  simp only [binaryOp, hi]
  refine wpAny_holding (wpAny_bind ?_)
  unfold binaryOp1
  refine wpAny_bind (A1.at (wpAny_bind (A2.at (wpAny_bind (A3.at ?_)))))
  simp only [unlike, Bool.false_eq_true, if_false]
  ksp_lk
  refine wpAny_mono tried (fun r s' z => ?_) fun _ _ e => e
  obtain ⟨v, rfl, q⟩ := z
  ksp_lk
  exact q
/-- the right operand an instance, the left one of a type without the slot -/
theorem binG (F : Fr h₀ L s.heap m) (X₀ : K.In h₀) (J : PySem.W.InstAt s.heap x ox C od) (hb : PySem.W.Looks (model prog w) s.heap (typeOf b) tb) (unlike : (tb == Value.ref C) = false) (hc : PySem.W.selfFirst K C = true)
    (hs : PySem.W.findIn K (.ref C) (PySem.dunder op.info.2) = some (some (.ref f))) (hg : PySem.W.findIn K (.ref C) (dunderR op.info.2) = some (some (.ref g))) (hf : PySem.W.isFn K (.ref g) = true) (no : PySem.W.Looks (model prog w) s.heap (fillsNumberSlot tb op.info.2) false)
    (h : wpAny (model prog w) A (call (.ref g) [.ref x, b]) (PySem.W.CmpBack Q) E' s) : wpAny (model prog w) A (binaryOp op b (.ref x)) Q E' s := by
  have Xk := X₀.keeps F.keep
  obtain ⟨cd, rest, hcd, hm⟩ := PySem.W.ksp_first hc
  rcases hi : op.info with ⟨sym, nm'⟩
  rw [hi] at hs hg no
  dsimp only at hs hg no
  have tried := PySem.W.ksp_try Xk J hg hf h
  obtain ⟨hh, gg, d, tt, os⟩ := s
  have A1 : PySem.W.Looks (model prog w) hh (typeOf b) tb := hb
  have A2 : PySem.W.Looks (model prog w) hh (typeOf (.ref x)) (.ref C) := J.type
  have A3 : PySem.W.Looks (model prog w) hh (fillsNumberSlot (.ref C) nm') true := PySem.W.fills_K Xk hcd hm hs
  have A4 : PySem.W.Looks (model prog w) hh (fillsNumberSlot tb nm') false := no
  simp only [binaryOp, hi]
  refine wpAny_holding (wpAny_bind ?_)
  unfold binaryOp1
  refine wpAny_bind (A1.at (wpAny_bind (A2.at (wpAny_bind (A4.at ?_)))))
  simp only [unlike, Bool.false_eq_true, if_false]
  ksp_lk
  refine wpAny_mono tried (fun r s' z => ?_) fun _ _ e => e
  obtain ⟨v, rfl, q⟩ := z
  ksp_lk
  exact q
end
/-! ### the built-in methods that decline -/
theorem sub_no (n : Int) (k : Tok) (p C dx : Addr) : Meets (Builtin.«int.__sub__» ⟨[.int n k, .ref p], []⟩) (fun _ R t => t.heap.get? p = some (PySem.W.instObj C dx) ∧ R (.ok (.ret Value.notImplemented)) t) := by
  refine .of_wp fun prog w A R t z => ?_
  obtain ⟨hp, gg, dd, tk, os⟩ := t
  obtain ⟨g, z⟩ := z
  wp_walk
  exact ⟨_, rfl, z⟩
theorem sub_noB (n : Bool) (p C dx : Addr) : Meets (Builtin.«int.__sub__» ⟨[.bool n, .ref p], []⟩) (fun _ R t => t.heap.get? p = some (PySem.W.instObj C dx) ∧ R (.ok (.ret Value.notImplemented)) t) := by
  refine .of_wp fun prog w A R t z => ?_
  obtain ⟨hp, gg, dd, tk, os⟩ := t
  obtain ⟨g, z⟩ := z
  wp_walk
  exact ⟨_, rfl, z⟩
theorem and_no (n : Int) (k : Tok) (p C dx : Addr) : Meets (Builtin.«int.__and__» ⟨[.int n k, .ref p], []⟩) (fun _ R t => t.heap.get? p = some (PySem.W.instObj C dx) ∧ R (.ok (.ret Value.notImplemented)) t) := by
  refine .of_wp fun prog w A R t z => ?_
  obtain ⟨hp, gg, dd, tk, os⟩ := t
  obtain ⟨g, z⟩ := z
  wp_walk
  exact ⟨_, rfl, z⟩
theorem and_noB (n : Bool) (p C dx : Addr) : Meets (Builtin.«bool.__and__» ⟨[.bool n, .ref p], []⟩) (fun _ R t => t.heap.get? p = some (PySem.W.instObj C dx) ∧ R (.ok (.ret Value.notImplemented)) t) := by
  refine .of_wp fun prog w A R t z => ?_
  obtain ⟨hp, gg, dd, tk, os⟩ := t
  obtain ⟨g, z⟩ := z
  wp_walk
  exact ⟨_, rfl, z⟩
theorem or_no (n : Int) (k : Tok) (p C dx : Addr) : Meets (Builtin.«int.__or__» ⟨[.int n k, .ref p], []⟩) (fun _ R t => t.heap.get? p = some (PySem.W.instObj C dx) ∧ R (.ok (.ret Value.notImplemented)) t) := by
  refine .of_wp fun prog w A R t z => ?_
  obtain ⟨hp, gg, dd, tk, os⟩ := t
  obtain ⟨g, z⟩ := z
  wp_walk
  exact ⟨_, rfl, z⟩
theorem or_noB (n : Bool) (p C dx : Addr) : Meets (Builtin.«bool.__or__» ⟨[.bool n, .ref p], []⟩) (fun _ R t => t.heap.get? p = some (PySem.W.instObj C dx) ∧ R (.ok (.ret Value.notImplemented)) t) := by
  refine .of_wp fun prog w A R t z => ?_
  obtain ⟨hp, gg, dd, tk, os⟩ := t
  obtain ⟨g, z⟩ := z
  wp_walk
  exact ⟨_, rfl, z⟩
theorem or_noD {prog : Program} {w : World} (d p : Addr) : MeetsIn prog w (Builtin.«dict.__or__» ⟨[.ref d, .ref p], []⟩) (fun _ R t => (∃ o : Obj, t.heap.get? d = some o ∧ o.cls = .type "dict") ∧ (∃ C, PySem.W.Looks (model prog w) t.heap (typeOf (.ref p)) C ∧ PySem.W.Looks (model prog w) t.heap (isSubtype C (.type "dict")) false) ∧ R (.ok (.ret Value.notImplemented)) t) := by
  intro A R t z
  obtain ⟨hp, gg, dd, tk, os⟩ := t
  obtain ⟨⟨o, g, c⟩, ⟨C, l1, l2⟩, z⟩ := z
  have B1 : PySem.W.Looks (model prog w) hp (isInstance (.ref d) (.type "dict")) true := fun A Q E s k q => wpAny_isInstance (T := "dict") ⟨o, k _ _ g, c⟩ (by rw [isSubtype_type]; kernel_rfl) q
  have B2 : PySem.W.Looks (model prog w) hp (isInstance (.ref p) (.type "dict")) false := l1.andThen l2
  have args : Builtin.Dict.dictSlotArgs "__or__" ⟨[.ref d, .ref p], []⟩ = pure (.ref d, .ref p) := by rfl
  show wpAny _ _ (Builtin.«dict.__or__» _) _ _ _
  unfold Builtin.«dict.__or__»
  rw [args]
  refine wpAny_bind (wpAny_pure ?_)
  dsimp only
  refine wpAny_bind ?_
  refine wpAny_bind (B1.here ?_)
  show wpAny _ _ (isInstance (.ref p) (.type "dict")) _ _ _
  refine B2.here ?_
  wp_walk
  exact z
/-! ### what the head says -/
/-- some own classes side by side -/
structure Fam (K : PySem.W.Frag) (Cs : List Addr) : Prop where
  nd : Cs.Nodup
  sees : ∀ C ∈ Cs, Sees K C
  kit : ∀ C ∈ Cs, ∀ D ∈ Cs, PySem.W.kitOne K (.ref C) (.ref D) = some (decide (C = D))
  off : ∀ C ∈ Cs, ∀ t ∈ ["str", "list", "tuple", "int", "bool"], PySem.W.kitOne K (.ref C) (.type t) = some false
  no : ∀ C ∈ Cs, ∀ t ∈ ["NoneType", "bool", "int", "str", "list", "tuple", "dict"], PySem.W.kitOne K (.type t) (.ref C) = some false
def famB (K : PySem.W.Frag) (Cs : List Addr) : Bool := (decide Cs.Nodup && (Cs.all fun C => seesB K C)) && ((Cs.all fun C => Cs.all fun D => decide (PySem.W.kitOne K (.ref C) (.ref D) = some (decide (C = D)))) &&
  ((Cs.all fun C => ["str", "list", "tuple", "int", "bool"].all fun t => decide (PySem.W.kitOne K (.ref C) (.type t) = some false)) && (Cs.all fun C => ["NoneType", "bool", "int", "str", "list", "tuple", "dict"].all fun t => decide (PySem.W.kitOne K (.type t) (.ref C) = some false))))
theorem famB_ok {K : PySem.W.Frag} {Cs : List Addr} (h : famB K Cs = true) : Fam K Cs := by
  obtain ⟨a, b⟩ := He.ba h
  obtain ⟨a1, a2⟩ := He.ba a
  obtain ⟨b1, b⟩ := He.ba b
  obtain ⟨b2, b3⟩ := He.ba b
  exact ⟨of_decide_eq_true a1, fun C hC => seesB_ok (List.all_eq_true.mp a2 C hC), fun C hC D hD => of_decide_eq_true (List.all_eq_true.mp (List.all_eq_true.mp b1 C hC) D hD),
    fun C hC t ht => of_decide_eq_true (List.all_eq_true.mp (List.all_eq_true.mp b2 C hC) t ht), fun C hC t ht => of_decide_eq_true (List.all_eq_true.mp (List.all_eq_true.mp b3 C hC) t ht)⟩
def decl : Operator → List String
  | .BitOr => ["bool", "int", "dict"]
  | _ => ["bool", "int"]
abbrev tyNames : List String := ["NoneType", "bool", "int", "str", "list", "tuple", "dict"]
/-- an own class with the operator and its reflected one, among built-in types and the own classes Ds, which have neither -/
structure ForC (K : PySem.W.Frag) (C : Addr) (op : Operator) (Ds : List Addr) : Prop where
  self : PySem.W.selfFirst K C = true
  ty : ∀ T ∈ tyNames, (∃ fo ro, PySem.W.findIn K (.type T) (PySem.dunder op.info.2) = some fo ∧ PySem.W.findIn K (.type T) (dunderR op.info.2) = some ro ∧
    (T ∉ decl op → ((fo.isSome && !isSeqSlot fo) || (ro.isSome && !isSeqSlot ro)) = false)) ∧ PySem.W.subIn K (.type T) (.ref C) = some false ∧ PySem.W.subIn K (.ref C) (.type T) = some false
  obj : PySem.W.findIn K (.type "object") (PySem.dunder op.info.2) = some none ∧ PySem.W.findIn K (.type "object") (dunderR op.info.2) = some none
  own : ∀ D ∈ Ds, D ≠ C ∧ (∃ cd, PySem.W.clsIn K D = some cd ∧ cd.mro = [.ref D, .type "object"]) ∧ PySem.W.findIn K (.ref D) (PySem.dunder op.info.2) = some none ∧ PySem.W.findIn K (.ref D) (dunderR op.info.2) = some none
def forTB (K : PySem.W.Frag) (C : Addr) (op : Operator) (T : String) : Bool := (match PySem.W.findIn K (.type T) (PySem.dunder op.info.2), PySem.W.findIn K (.type T) (dunderR op.info.2) with
  | some fo, some ro => decide (T ∈ decl op) || !((fo.isSome && !isSeqSlot fo) || (ro.isSome && !isSeqSlot ro))
  | _, _ => false) && (decide (PySem.W.subIn K (.type T) (.ref C) = some false) && decide (PySem.W.subIn K (.ref C) (.type T) = some false))
def mroTwo (D : Addr) : Option PySem.ClassData → Bool
  | some cd => (match cd.mro with
    | [.ref a, .type t] => decide (a = D) && decide (t = "object")
    | _ => false)
  | none => false
theorem mroTwo_ok {D : Addr} {o : Option PySem.ClassData} (h : mroTwo D o = true) : ∃ cd, o = some cd ∧ cd.mro = [.ref D, .type "object"] := by
  cases o with
  | none => cases h
  | some cd =>
    refine ⟨cd, rfl, ?_⟩
    unfold mroTwo at h
    dsimp only at h
    split at h
    · rename_i a t e
      obtain ⟨h1, h2⟩ := He.ba h
      rw [e, of_decide_eq_true h1, of_decide_eq_true h2]
    · cases h
def forDB (K : PySem.W.Frag) (C : Addr) (op : Operator) (D : Addr) : Bool := (decide (D ≠ C) && mroTwo D (PySem.W.clsIn K D)) && (He.eqO (PySem.W.findIn K (.ref D) (PySem.dunder op.info.2)) (some none) && He.eqO (PySem.W.findIn K (.ref D) (dunderR op.info.2)) (some none))
def forB (K : PySem.W.Frag) (C : Addr) (op : Operator) (Ds : List Addr) : Bool := (PySem.W.selfFirst K C && tyNames.all (forTB K C op)) && ((He.eqO (PySem.W.findIn K (.type "object") (PySem.dunder op.info.2)) (some none) && He.eqO (PySem.W.findIn K (.type "object") (dunderR op.info.2)) (some none)) && Ds.all (forDB K C op))
theorem forB_ok {K : PySem.W.Frag} {C : Addr} {op : Operator} {Ds : List Addr} (h : forB K C op Ds = true) : ForC K C op Ds := by
  obtain ⟨a, b⟩ := He.ba h
  obtain ⟨a1, a2⟩ := He.ba a
  obtain ⟨b1, b2⟩ := He.ba b
  obtain ⟨o1, o2⟩ := He.ba b1
  refine ⟨a1, fun T hT => ?_, ⟨He.eqO_ok o1, He.eqO_ok o2⟩, fun D hD => ?_⟩
  · obtain ⟨c, d⟩ := He.ba (List.all_eq_true.mp a2 T hT)
    obtain ⟨d1, d2⟩ := He.ba d
    refine ⟨?_, of_decide_eq_true d1, of_decide_eq_true d2⟩
    split at c
    · rename_i fo ro e1 e2
      refine ⟨fo, ro, e1, e2, fun m => ?_⟩
      rcases Bool.or_eq_true _ _ ▸ c with z | z
      · exact absurd (of_decide_eq_true z) m
      · exact Bool.not_eq_true' _ ▸ z
    · cases c
  · obtain ⟨c, d⟩ := He.ba (List.all_eq_true.mp b2 D hD)
    obtain ⟨c1, c2⟩ := He.ba c
    obtain ⟨d1, d2⟩ := He.ba d
    exact ⟨of_decide_eq_true c1, mroTwo_ok c2, He.eqO_ok d1, He.eqO_ok d2⟩
theorem ForC.fills {K : PySem.W.Frag} {C D : Addr} {op : Operator} {Ds : List Addr} {M : Model} {h : Heap} (F : ForC K C op Ds) (X : K.In h) (m : D ∈ Ds) : PySem.W.Looks M h (fillsNumberSlot (.ref D) op.info.2) false := by
  obtain ⟨_, ⟨cd, h1, h2⟩, h3, h4⟩ := F.own D m
  exact fills_no X h1 h2 h3 h4 F.obj.1 F.obj.2
/-- the types that were asked of -/
def Tv (Ds : List Addr) (t : Value) : Prop := (∃ T ∈ tyNames, t = .type T) ∨ ∃ D ∈ Ds, t = .ref D
section
variable {X : Cx} {CX : CXT} {k : Nat} {C f g : Addr} {Ds : List Addr} {fd : FuncData} {ps : List Str} {sp : Sp} {E : L2.St → XK} {op : Operator}
def rForL (C : Addr) (Ds : List Addr) (sp : Sp) (E : L2.St → XK) : L2.St → R2 := fun τ x y H Q => ∃ a dx fs t, x = .ref a ∧ H a = some (.ins C dx fs) ∧ Fo H y t ∧ Tv Ds t ∧ sp [.ref a, y] H Q (E τ)
theorem op_forL (M : ForC X.K C op Ds) (l : OpC X.K C (PySem.dunder op.info.2) f) (r : OpC X.K C (dunderR op.info.2) g) (F : FnOk X.prog X.w X.K X.mg X.base CX k f fd ps sp) (hr : Room k X.A) (hb : Binds X.K fd ps []) (out : ∀ τ, PassesAt CX X τ (E τ)) : OpS X (binaryOp op) (rForL C Ds sp E) := by
  intro pn t τ G x y va vb W I rx ry h
  obtain ⟨a, dx, fs, tv, rfl, ha, fo, tk, q⟩ := h
  cases rx
  obtain ⟨oa, da, Ja⟩ := inst_of I ha
  obtain ⟨mm, Fm⟩ := I.fr
  have one := wpAny_mono (run_opS F hr hb (out τ) I (.cons (relRef _) (.cons ry .nil)) q) (fun _ _ z => back_ok z) fun _ _ z => z
  have look := fo.looks I ry
  rcases tk with ⟨T, hT, rfl⟩ | ⟨D, hD, rfl⟩
  · obtain ⟨⟨fo, ro, e1, e2, _⟩, n1, _⟩ := M.ty T hT
    exact binL Fm I.mod.kin Ja look M.self l.at_ l.fn r.at_ e1 e2 n1 one
  · refine binF Fm I.mod.kin Ja look (Bool.eq_false_iff.mpr fun z => (M.own D hD).1 ?_) M.self l.at_ l.fn (M.fills (I.mod.kin.keeps Fm.keep) hD) one
    have z := beq_iff_eq.mp z
    cases z
    rfl
def rForR (C : Addr) (Ds : List Addr) (sp : Sp) (E : L2.St → XK) : L2.St → R2 := fun τ x y H Q => ∃ a dx fs t, y = .ref a ∧ H a = some (.ins C dx fs) ∧ Fo H x t ∧ Tv Ds t ∧ sp [.ref a, x] H Q (E τ)
theorem op_forR (hop : op = .BitOr ∨ op = .BitAnd ∨ op = .Sub) (M : ForC X.K C op Ds) (l : OpC X.K C (PySem.dunder op.info.2) f) (r : OpC X.K C (dunderR op.info.2) g) (F : FnOk X.prog X.w X.K X.mg X.base CX k g fd ps sp) (hr : Room k X.A) (hb : Binds X.K fd ps []) (out : ∀ τ, PassesAt CX X τ (E τ)) : OpS X (binaryOp op) (rForR C Ds sp E) := by
  intro pn t τ G x y va vb W I rx ry h
  obtain ⟨a, dx, fs, tv, rfl, ha, fo, tk, q⟩ := h
  cases ry
  obtain ⟨oa, da, Ja⟩ := inst_of I ha
  obtain ⟨mm, Fm⟩ := I.fr
  have one := wpAny_mono (run_opS F hr hb (out τ) I (.cons (relRef _) (.cons rx .nil)) q) (fun _ _ z => back_ok z) fun _ _ z => z
  have look := fo.looks I rx
  obtain ⟨mA, O, _⟩ := ins_get I.hok ha
  rcases tk with ⟨T, hT, rfl⟩ | ⟨D, hD, rfl⟩
  · obtain ⟨⟨fo', ro, e1, e2, low⟩, _, n2⟩ := M.ty T hT
    by_cases c : T ∈ decl op
    · have kin := I.mod.kin.keeps Fm.keep
      rcases hop with rfl | rfl | rfl
      · cases fo with
        | bl b =>
          cases rx
          exact binD (op := .BitOr) Fm I.mod.kin Ja (PySem.typeIs_bool t b) look M.self l.at_ r.at_ r.fn PySem.F.fills_bool_or n2 PySem.F.slot_bool_or
            (fun R r => call_meets PySem.F.slot_bool_or (PySem.typeIs_bool t b) PySem.F.entry_bool_or (PySem.F.args_bool_or_2 _ _) (or_noB b a C dx) ⟨O.obj, r⟩) one
        | int n =>
          obtain ⟨kk, rfl⟩ := rx
          exact binD (op := .BitOr) Fm I.mod.kin Ja (typeIs_int t n kk) look M.self l.at_ r.at_ r.fn PySem.F.fills_int_or n2 PySem.F.slot_int_or
            (fun R r => call_meets PySem.F.slot_int_or (typeIs_int t n kk) PySem.F.entry_int_or (PySem.F.args_int_or_2 _ _) (or_no n kk a C dx) ⟨O.obj, r⟩) one
        | @dct d kvs e =>
          cases rx
          obtain ⟨_, _, vs, _, ob, es, ep, g, cc, _⟩ := (show ObjOk X.prog X.w G t.heap d (.dK kvs) from I.hok d _ e)
          exact binD (op := .BitOr) Fm I.mod.kin Ja (T := "dict") ⟨ob, g, cc.1⟩ look M.self l.at_ r.at_ r.fn PySem.F.fills_dict_or n2 PySem.F.slot_dict_or
            (fun R r => call_meetsIn PySem.F.slot_dict_or (T := "dict") ⟨ob, g, cc.1⟩ PySem.F.entry_dict_or (PySem.F.args_dict_or_2 _ _) (or_noD d a) ⟨⟨ob, g, cc.1⟩, ⟨.ref C, Ja.type, PySem.W.looks_subIn kin n2⟩, r⟩) one
        | non => exact absurd c (by decide)
        | str z => exact absurd c (by decide)
        | lst e => exact absurd c (by decide)
        | tup e => exact absurd c (by decide)
      · cases fo with
        | bl b =>
          cases rx
          exact binD (op := .BitAnd) Fm I.mod.kin Ja (PySem.typeIs_bool t b) look M.self l.at_ r.at_ r.fn PySem.F.fills_bool_and n2 PySem.F.slot_bool_and
            (fun R r => call_meets PySem.F.slot_bool_and (PySem.typeIs_bool t b) PySem.F.entry_bool_and (PySem.F.args_bool_and_2 _ _) (and_noB b a C dx) ⟨O.obj, r⟩) one
        | int n =>
          obtain ⟨kk, rfl⟩ := rx
          exact binD (op := .BitAnd) Fm I.mod.kin Ja (typeIs_int t n kk) look M.self l.at_ r.at_ r.fn PySem.F.fills_int_and n2 PySem.F.slot_int_and
            (fun R r => call_meets PySem.F.slot_int_and (typeIs_int t n kk) PySem.F.entry_int_and (PySem.F.args_int_and_2 _ _) (and_no n kk a C dx) ⟨O.obj, r⟩) one
        | dct e => exact absurd c (by decide)
        | non => exact absurd c (by decide)
        | str z => exact absurd c (by decide)
        | lst e => exact absurd c (by decide)
        | tup e => exact absurd c (by decide)
      · cases fo with
        | bl b =>
          cases rx
          exact binD (op := .Sub) Fm I.mod.kin Ja (PySem.typeIs_bool t b) look M.self l.at_ r.at_ r.fn PySem.F.fills_bool_sub n2 PySem.F.slot_bool_sub
            (fun R r => call_meets PySem.F.slot_bool_sub (PySem.typeIs_bool t b) PySem.F.entry_int_sub (PySem.F.args_int_sub_2 _ _) (sub_noB b a C dx) ⟨O.obj, r⟩) one
        | int n =>
          obtain ⟨kk, rfl⟩ := rx
          exact binD (op := .Sub) Fm I.mod.kin Ja (typeIs_int t n kk) look M.self l.at_ r.at_ r.fn PySem.F.fills_int_sub n2 PySem.F.slot_int_sub
            (fun R r => call_meets PySem.F.slot_int_sub (typeIs_int t n kk) PySem.F.entry_int_sub (PySem.F.args_int_sub_2 _ _) (sub_no n kk a C dx) ⟨O.obj, r⟩) one
        | dct e => exact absurd c (by decide)
        | non => exact absurd c (by decide)
        | str z => exact absurd c (by decide)
        | lst e => exact absurd c (by decide)
        | tup e => exact absurd c (by decide)
    · exact binN Fm I.mod.kin Ja look M.self l.at_ r.at_ r.fn e1 e2 (low c) one
  · refine binG Fm I.mod.kin Ja look (Bool.eq_false_iff.mpr fun z => (M.own D hD).1 ?_) M.self l.at_ r.at_ r.fn (M.fills (I.mod.kin.keeps Fm.keep) hD) one
    have z := beq_iff_eq.mp z
    cases z
    rfl
end
/-- one error that is told apart from some others -/
structure ErrA (K : PySem.W.Frag) (A T : Addr) (Bs : List Addr) : Prop where
  c : ExcC K A
  own : PySem.W.exmOne K (.ref A) (.ref A) = some true
  no : ∀ B ∈ Bs, PySem.W.exmOne K (.ref A) (.ref B) = some false
  tA : PySem.W.kitOne K (.ref A) (.ref T) = some true
  vA : PySem.W.kitOne K (.ref A) (.type "ValueError") = some true
def errAB (K : PySem.W.Frag) (A T : Addr) (Bs : List Addr) : Bool := (excCB K A && decide (PySem.W.exmOne K (.ref A) (.ref A) = some true)) && ((Bs.all fun B => decide (PySem.W.exmOne K (.ref A) (.ref B) = some false)) &&
  (decide (PySem.W.kitOne K (.ref A) (.ref T) = some true) && decide (PySem.W.kitOne K (.ref A) (.type "ValueError") = some true)))
theorem errAB_ok {K : PySem.W.Frag} {A T : Addr} {Bs : List Addr} (h : errAB K A T Bs = true) : ErrA K A T Bs := by
  obtain ⟨a, b⟩ := He.ba h
  obtain ⟨a1, a2⟩ := He.ba a
  obtain ⟨b1, b⟩ := He.ba b
  obtain ⟨b2, b3⟩ := He.ba b
  exact ⟨excCB_ok a1, of_decide_eq_true a2, fun B hB => of_decide_eq_true (List.all_eq_true.mp b1 B hB), of_decide_eq_true b2, of_decide_eq_true b3⟩
end Tl

namespace K02
open PySem PySem.Spec PyProof.Rows L2
/-! ### the text -/
def top (i : Nat) : Stmt := PySem.Challenge.pw_townlines_k02_signs_refuse.main.body.getD i (.Pass ⟨0, 0, 0, 0⟩)
abbrev s_Signs_init_ : Stmt := inClass (top 16) 0
abbrev s_Signsspan : Stmt := inClass (top 16) 1
abbrev s_Signsletters : Stmt := inClass (top 16) 2
abbrev s_Signscapitals : Stmt := inClass (top 16) 3
abbrev s_Signsdigits : Stmt := inClass (top 16) 4
abbrev s_Signs_or_ : Stmt := inClass (top 16) 5
abbrev s_Signs_ror_ : Stmt := inClass (top 16) 6
abbrev s_Signs_ior_ : Stmt := inClass (top 16) 7
abbrev s_Signs_and_ : Stmt := inClass (top 16) 8
abbrev s_Signs_rand_ : Stmt := inClass (top 16) 9
abbrev s_Signs_sub_ : Stmt := inClass (top 16) 10
abbrev s_Signs_rsub_ : Stmt := inClass (top 16) 11
abbrev s_Signs_eq_ : Stmt := inClass (top 16) 13
abbrev s_Signs_contains_ : Stmt := inClass (top 16) 16
abbrev s_Signswithin : Stmt := inClass (top 16) 17
abbrev s_Signsleast : Stmt := inClass (top 16) 18
abbrev s_Signsspelled : Stmt := inClass (top 16) 19
abbrev s_is_sign : Stmt := top 17
abbrev s_is_sign_text : Stmt := top 18
abbrev s_is_signs : Stmt := top 19
abbrev s_signs_of : Stmt := top 20
abbrev s_kept_signs : Stmt := top 21
abbrev s_other_signs : Stmt := top 22
abbrev s_is_integer : Stmt := top 25
abbrev s_is_integer_within : Stmt := top 26
abbrev s_is_row : Stmt := top 27
abbrev s_is_name : Stmt := top 28
abbrev s_Net_init_ : Stmt := inClass (top 33) 0
abbrev s_places_by_char : Stmt := top 34
abbrev s_place_count : Stmt := top 35
abbrev s_run_net : Stmt := top 36
abbrev s_renumbered : Stmt := top 39
abbrev s_chained : Stmt := top 40
abbrev s_side_by_side : Stmt := top 41
abbrev s_under_each_other : Stmt := top 43
abbrev s_stand_from : Stmt := top 48
abbrev s_stand_after : Stmt := top 49
abbrev s_takes : Stmt := top 50
abbrev s_Kind_init_ : Stmt := inClass (top 59) 0
abbrev s_Kindrun : Stmt := inClass (top 59) 1
abbrev s_Kindhas_empty : Stmt := inClass (top 59) 9
abbrev s_are_bounds : Stmt := top 60
abbrev s_without_repeats : Stmt := top 62
abbrev s_is_too_large : Stmt := top 63
abbrev s_alternative_net : Stmt := top 64
abbrev s_Field_init_ : Stmt := inClass (top 70) 0
abbrev s_Mark_init_ : Stmt := inClass (top 71) 0
abbrev s_Maybe_init_ : Stmt := inClass (top 72) 0
abbrev s_is_field_kind : Stmt := top 73
abbrev s_is_item : Stmt := top 74
abbrev s_has_own_field : Stmt := top 75
abbrev s_fields_in : Stmt := top 76
abbrev s_depth_around : Stmt := top 77
abbrev s_item_size : Stmt := top 78
abbrev s_row_size : Stmt := top 79
abbrev s_joined : Stmt := top 80
abbrev s_check_lines : Stmt := top 84
abbrev s_is_item_row : Stmt := top 85
abbrev s_lines_size : Stmt := top 86
abbrev s_lines_net : Stmt := top 87
abbrev s_row_net : Stmt := top 88
abbrev s_item_net : Stmt := top 89
abbrev s_lines_holders : Stmt := top 90
abbrev s_row_holders : Stmt := top 91
abbrev s_owner_sets : Stmt := top 92
abbrev s_Form_init_ : Stmt := inClass (top 108) 0
abbrev s_l_bag : Stmt := top 111
abbrev s_l_draw : Stmt := top 112
abbrev s_l_alphabet : Stmt := top 113
abbrev s_l_letters : Stmt := top 114
abbrev s_l_refused : Stmt := top 115
abbrev s_l_or : Stmt := top 116
abbrev s_l_and : Stmt := top 117
abbrev s_l_less : Stmt := top 118
abbrev s_l_or_in_place : Stmt := top 119
abbrev s_l_new : Stmt := top 120
abbrev s_l_inside : Stmt := top 121
abbrev s_l_span_of : Stmt := top 122
abbrev s_l_least_of : Stmt := top 123
abbrev s_l_bad : Stmt := top 124
abbrev s_l_all_refused : Stmt := top 125
abbrev s_l_span : Stmt := top 126
abbrev s_law : Stmt := top 127
/-! ### names and parameters -/
theorem sc_Signs_init_ : FnScope ["self", "text", "sign"] ["self", "text"] (defScope s_Signs_init_) := ⟨rfl, rfl, rfl, by decide +kernel, rfl, by decide +kernel, by decide +kernel⟩
theorem sc_Signsspan : FnScope ["first", "last", "sign"] ["first", "last"] (defScope s_Signsspan) := ⟨rfl, rfl, rfl, by decide +kernel, rfl, by decide +kernel, by decide +kernel⟩
theorem sc_Signsletters : FnScope [] [] (defScope s_Signsletters) := ⟨rfl, rfl, rfl, by decide +kernel, rfl, by decide +kernel, by decide +kernel⟩
theorem sc_Signscapitals : FnScope [] [] (defScope s_Signscapitals) := ⟨rfl, rfl, rfl, by decide +kernel, rfl, by decide +kernel, by decide +kernel⟩
theorem sc_Signsdigits : FnScope [] [] (defScope s_Signsdigits) := ⟨rfl, rfl, rfl, by decide +kernel, rfl, by decide +kernel, by decide +kernel⟩
theorem sc_Signs_or_ : FnScope ["self", "other"] ["self", "other"] (defScope s_Signs_or_) := ⟨rfl, rfl, rfl, by decide +kernel, rfl, by decide +kernel, by decide +kernel⟩
theorem sc_Signs_ror_ : FnScope ["self", "other"] ["self", "other"] (defScope s_Signs_ror_) := ⟨rfl, rfl, rfl, by decide +kernel, rfl, by decide +kernel, by decide +kernel⟩
theorem sc_Signs_ior_ : FnScope ["self", "other"] ["self", "other"] (defScope s_Signs_ior_) := ⟨rfl, rfl, rfl, by decide +kernel, rfl, by decide +kernel, by decide +kernel⟩
theorem sc_Signs_and_ : FnScope ["self", "other"] ["self", "other"] (defScope s_Signs_and_) := ⟨rfl, rfl, rfl, by decide +kernel, rfl, by decide +kernel, by decide +kernel⟩
theorem sc_Signs_rand_ : FnScope ["self", "other"] ["self", "other"] (defScope s_Signs_rand_) := ⟨rfl, rfl, rfl, by decide +kernel, rfl, by decide +kernel, by decide +kernel⟩
theorem sc_Signs_sub_ : FnScope ["self", "other"] ["self", "other"] (defScope s_Signs_sub_) := ⟨rfl, rfl, rfl, by decide +kernel, rfl, by decide +kernel, by decide +kernel⟩
theorem sc_Signs_rsub_ : FnScope ["self", "other"] ["self", "other"] (defScope s_Signs_rsub_) := ⟨rfl, rfl, rfl, by decide +kernel, rfl, by decide +kernel, by decide +kernel⟩
theorem sc_Signs_eq_ : FnScope ["self", "other"] ["self", "other"] (defScope s_Signs_eq_) := ⟨rfl, rfl, rfl, by decide +kernel, rfl, by decide +kernel, by decide +kernel⟩
theorem sc_Signs_contains_ : FnScope ["self", "x"] ["self", "x"] (defScope s_Signs_contains_) := ⟨rfl, rfl, rfl, by decide +kernel, rfl, by decide +kernel, by decide +kernel⟩
theorem sc_Signswithin : FnScope ["self", "other"] ["self", "other"] (defScope s_Signswithin) := ⟨rfl, rfl, rfl, by decide +kernel, rfl, by decide +kernel, by decide +kernel⟩
theorem sc_Signsleast : FnScope ["self"] ["self"] (defScope s_Signsleast) := ⟨rfl, rfl, rfl, by decide +kernel, rfl, by decide +kernel, by decide +kernel⟩
theorem sc_Signsspelled : FnScope ["self"] ["self"] (defScope s_Signsspelled) := ⟨rfl, rfl, rfl, by decide +kernel, rfl, by decide +kernel, by decide +kernel⟩
theorem sc_is_sign : FnScope ["thing"] ["thing"] (defScope s_is_sign) := ⟨rfl, rfl, rfl, by decide +kernel, rfl, by decide +kernel, by decide +kernel⟩
theorem sc_is_sign_text : FnScope ["thing", "sign"] ["thing"] (defScope s_is_sign_text) := ⟨rfl, rfl, rfl, by decide +kernel, rfl, by decide +kernel, by decide +kernel⟩
theorem sc_is_signs : FnScope ["thing"] ["thing"] (defScope s_is_signs) := ⟨rfl, rfl, rfl, by decide +kernel, rfl, by decide +kernel, by decide +kernel⟩
theorem sc_signs_of : FnScope ["thing"] ["thing"] (defScope s_signs_of) := ⟨rfl, rfl, rfl, by decide +kernel, rfl, by decide +kernel, by decide +kernel⟩
theorem sc_kept_signs : FnScope ["signs", "others", "sign"] ["signs", "others"] (defScope s_kept_signs) := ⟨rfl, rfl, rfl, by decide +kernel, rfl, by decide +kernel, by decide +kernel⟩
theorem sc_other_signs : FnScope ["signs", "others", "sign"] ["signs", "others"] (defScope s_other_signs) := ⟨rfl, rfl, rfl, by decide +kernel, rfl, by decide +kernel, by decide +kernel⟩
theorem sc_is_integer : FnScope ["thing"] ["thing"] (defScope s_is_integer) := ⟨rfl, rfl, rfl, by decide +kernel, rfl, by decide +kernel, by decide +kernel⟩
theorem sc_is_integer_within : FnScope ["thing", "low", "high"] ["thing", "low", "high"] (defScope s_is_integer_within) := ⟨rfl, rfl, rfl, by decide +kernel, rfl, by decide +kernel, by decide +kernel⟩
theorem sc_is_row : FnScope ["thing"] ["thing"] (defScope s_is_row) := ⟨rfl, rfl, rfl, by decide +kernel, rfl, by decide +kernel, by decide +kernel⟩
theorem sc_is_name : FnScope ["thing", "letter"] ["thing"] (defScope s_is_name) := ⟨rfl, rfl, rfl, by decide +kernel, rfl, by decide +kernel, by decide +kernel⟩
theorem sc_Net_init_ : FnScope ["self", "chars", "follow", "exits"] ["self", "chars", "follow", "exits"] (defScope s_Net_init_) := ⟨rfl, rfl, rfl, by decide +kernel, rfl, by decide +kernel, by decide +kernel⟩
theorem sc_places_by_char : FnScope ["chars", "by_string", "place", "string", "by_char", "places", "char"] ["chars"] (defScope s_places_by_char) := ⟨rfl, rfl, rfl, by decide +kernel, rfl, by decide +kernel, by decide +kernel⟩
theorem sc_place_count : FnScope ["least", "most"] ["least", "most"] (defScope s_place_count) := ⟨rfl, rfl, rfl, by decide +kernel, rfl, by decide +kernel, by decide +kernel⟩
theorem sc_run_net : FnScope ["signs", "least", "most", "count", "after_last", "taken", "follow", "exits"] ["signs", "least", "most"] (defScope s_run_net) := ⟨rfl, rfl, rfl, by decide +kernel, rfl, by decide +kernel, by decide +kernel⟩
theorem sc_renumbered : FnScope ["places", "shift"] ["places", "shift"] (defScope s_renumbered) := ⟨rfl, rfl, rfl, by decide +kernel, rfl, by decide +kernel, by decide +kernel⟩
theorem sc_chained : FnScope ["nets", "chars", "follow", "exits", "net", "shift", "first", "at", "ways", "earlier"] ["nets"] (defScope s_chained) := ⟨rfl, rfl, rfl, by decide +kernel, rfl, by decide +kernel, by decide +kernel⟩
theorem sc_side_by_side : FnScope ["nets", "chars", "first", "follow", "exits", "net", "shift", "ways"] ["nets"] (defScope s_side_by_side) := ⟨rfl, rfl, rfl, by decide +kernel, rfl, by decide +kernel, by decide +kernel⟩
theorem sc_under_each_other : FnScope ["nets", "whole", "net"] ["nets"] (defScope s_under_each_other) := ⟨rfl, rfl, rfl, by decide +kernel, rfl, by decide +kernel, by decide +kernel⟩
theorem sc_stand_from : FnScope ["net", "start", "text", "stand", "char"] ["net", "start", "text"] (defScope s_stand_from) := ⟨rfl, rfl, rfl, by decide +kernel, rfl, by decide +kernel, by decide +kernel⟩
theorem sc_stand_after : FnScope ["net", "text"] ["net", "text"] (defScope s_stand_after) := ⟨rfl, rfl, rfl, by decide +kernel, rfl, by decide +kernel, by decide +kernel⟩
theorem sc_takes : FnScope ["net", "text"] ["net", "text"] (defScope s_takes) := ⟨rfl, rfl, rfl, by decide +kernel, rfl, by decide +kernel, by decide +kernel⟩
theorem sc_Kind_init_ : FnScope ["self", "rows", "row"] ["self", "rows"] (defScope s_Kind_init_) := ⟨rfl, rfl, rfl, by decide +kernel, rfl, by decide +kernel, by decide +kernel⟩
theorem sc_Kindrun : FnScope ["signs", "least", "most", "spelling"] ["signs", "least", "most"] (defScope s_Kindrun) := ⟨rfl, rfl, rfl, by decide +kernel, rfl, by decide +kernel, by decide +kernel⟩
theorem sc_Kindhas_empty : FnScope ["self"] ["self"] (defScope s_Kindhas_empty) := ⟨rfl, rfl, rfl, by decide +kernel, rfl, by decide +kernel, by decide +kernel⟩
theorem sc_are_bounds : FnScope ["least", "most"] ["least", "most"] (defScope s_are_bounds) := ⟨rfl, rfl, rfl, by decide +kernel, rfl, by decide +kernel, by decide +kernel⟩
theorem sc_without_repeats : FnScope ["rows", "row", "kept"] ["rows"] (defScope s_without_repeats) := ⟨rfl, rfl, rfl, by decide +kernel, rfl, by decide +kernel, by decide +kernel⟩
theorem sc_is_too_large : FnScope ["rows", "row", "signs", "least", "most"] ["rows"] (defScope s_is_too_large) := ⟨rfl, rfl, rfl, by decide +kernel, rfl, by decide +kernel, by decide +kernel⟩
theorem sc_alternative_net : FnScope ["row", "signs", "least", "most"] ["row"] (defScope s_alternative_net) := ⟨rfl, rfl, rfl, by decide +kernel, rfl, by decide +kernel, by decide +kernel⟩
theorem sc_Field_init_ : FnScope ["self", "name", "kind"] ["self", "name", "kind"] (defScope s_Field_init_) := ⟨rfl, rfl, rfl, by decide +kernel, rfl, by decide +kernel, by decide +kernel⟩
theorem sc_Mark_init_ : FnScope ["self", "text"] ["self", "text"] (defScope s_Mark_init_) := ⟨rfl, rfl, rfl, by decide +kernel, rfl, by decide +kernel, by decide +kernel⟩
theorem sc_Maybe_init_ : FnScope ["self", "parts", "at", "part"] ["self", "parts"] (defScope s_Maybe_init_) := ⟨rfl, rfl, rfl, by decide +kernel, rfl, by decide +kernel, by decide +kernel⟩
theorem sc_is_field_kind : FnScope ["thing"] ["thing"] (defScope s_is_field_kind) := ⟨rfl, rfl, rfl, by decide +kernel, rfl, by decide +kernel, by decide +kernel⟩
theorem sc_is_item : FnScope ["thing"] ["thing"] (defScope s_is_item) := ⟨rfl, rfl, rfl, by decide +kernel, rfl, by decide +kernel, by decide +kernel⟩
theorem sc_has_own_field : FnScope ["row", "item"] ["row"] (defScope s_has_own_field) := ⟨rfl, rfl, rfl, by decide +kernel, rfl, by decide +kernel, by decide +kernel⟩
theorem sc_fields_in : FnScope ["row", "found", "item"] ["row"] (defScope s_fields_in) := ⟨rfl, rfl, rfl, by decide +kernel, rfl, by decide +kernel, by decide +kernel⟩
theorem sc_depth_around : FnScope ["parts", "part"] ["parts"] (defScope s_depth_around) := ⟨rfl, rfl, rfl, by decide +kernel, rfl, by decide +kernel, by decide +kernel⟩
theorem sc_item_size : FnScope ["item"] ["item"] (defScope s_item_size) := ⟨rfl, rfl, rfl, by decide +kernel, rfl, by decide +kernel, by decide +kernel⟩
theorem sc_row_size : FnScope ["row", "item"] ["row"] (defScope s_row_size) := ⟨rfl, rfl, rfl, by decide +kernel, rfl, by decide +kernel, by decide +kernel⟩
theorem sc_joined : FnScope ["row", "made", "item"] ["row"] (defScope s_joined) := ⟨rfl, rfl, rfl, by decide +kernel, rfl, by decide +kernel, by decide +kernel⟩
theorem sc_check_lines : FnScope ["lines", "seen", "at", "line", "field"] ["lines"] (defScope s_check_lines) := ⟨rfl, rfl, rfl, by decide +kernel, rfl, by decide +kernel, by decide +kernel⟩
theorem sc_is_item_row : FnScope ["thing", "item"] ["thing"] (defScope s_is_item_row) := ⟨rfl, rfl, rfl, by decide +kernel, rfl, by decide +kernel, by decide +kernel⟩
theorem sc_lines_size : FnScope ["lines", "line"] ["lines"] (defScope s_lines_size) := ⟨rfl, rfl, rfl, by decide +kernel, rfl, by decide +kernel, by decide +kernel⟩
theorem sc_lines_net : FnScope ["lines", "line"] ["lines"] (defScope s_lines_net) := ⟨rfl, rfl, rfl, by decide +kernel, rfl, by decide +kernel, by decide +kernel⟩
theorem sc_row_net : FnScope ["row", "item"] ["row"] (defScope s_row_net) := ⟨rfl, rfl, rfl, by decide +kernel, rfl, by decide +kernel, by decide +kernel⟩
theorem sc_item_net : FnScope ["item"] ["item"] (defScope s_item_net) := ⟨rfl, rfl, rfl, by decide +kernel, rfl, by decide +kernel, by decide +kernel⟩
theorem sc_lines_holders : FnScope ["lines", "holders", "line"] ["lines"] (defScope s_lines_holders) := ⟨rfl, rfl, rfl, by decide +kernel, rfl, by decide +kernel, by decide +kernel⟩
theorem sc_row_holders : FnScope ["row", "holders", "item", "name"] ["row"] (defScope s_row_holders) := ⟨rfl, rfl, rfl, by decide +kernel, rfl, by decide +kernel, by decide +kernel⟩
theorem sc_owner_sets : FnScope ["holders", "sets", "place", "name", "owner"] ["holders"] (defScope s_owner_sets) := ⟨rfl, rfl, rfl, by decide +kernel, rfl, by decide +kernel, by decide +kernel⟩
theorem sc_Form_init_ : FnScope ["self", "lines", "line", "field"] ["self", "lines"] (defScope s_Form_init_) := ⟨rfl, rfl, rfl, by decide +kernel, rfl, by decide +kernel, by decide +kernel⟩
theorem sc_l_bag : FnScope ["_law_script"] ["_law_script"] (defScope s_l_bag) := ⟨rfl, rfl, rfl, by decide +kernel, rfl, by decide +kernel, by decide +kernel⟩
theorem sc_l_draw : FnScope ["_law_bag_here", "_law_limit", "_law_cell", "_law_number", "_law_drawn", "_law_one"] ["_law_bag_here", "_law_limit"] (defScope s_l_draw) := ⟨rfl, rfl, rfl, by decide +kernel, rfl, by decide +kernel, by decide +kernel⟩
theorem sc_l_alphabet : FnScope ["_law_first"] [] (defScope s_l_alphabet) := ⟨rfl, rfl, rfl, by decide +kernel, rfl, by decide +kernel, by decide +kernel⟩
theorem sc_l_letters : FnScope ["_law_bag_here", "_law_many", "_law_rest", "_law_found", "_law_k"] ["_law_bag_here", "_law_many"] (defScope s_l_letters) := ⟨rfl, rfl, rfl, by decide +kernel, rfl, by decide +kernel, by decide +kernel⟩
theorem sc_l_refused : FnScope ["_law_made", "_law_one", "_law_other", "e"] ["_law_made", "_law_one", "_law_other"] (defScope s_l_refused) := ⟨rfl, rfl, rfl, by decide +kernel, rfl, by decide +kernel, by decide +kernel⟩
theorem sc_l_or : FnScope ["_law_one", "_law_other"] ["_law_one", "_law_other"] (defScope s_l_or) := ⟨rfl, rfl, rfl, by decide +kernel, rfl, by decide +kernel, by decide +kernel⟩
theorem sc_l_and : FnScope ["_law_one", "_law_other"] ["_law_one", "_law_other"] (defScope s_l_and) := ⟨rfl, rfl, rfl, by decide +kernel, rfl, by decide +kernel, by decide +kernel⟩
theorem sc_l_less : FnScope ["_law_one", "_law_other"] ["_law_one", "_law_other"] (defScope s_l_less) := ⟨rfl, rfl, rfl, by decide +kernel, rfl, by decide +kernel, by decide +kernel⟩
theorem sc_l_or_in_place : FnScope ["_law_one", "_law_other", "_law_bound"] ["_law_one", "_law_other"] (defScope s_l_or_in_place) := ⟨rfl, rfl, rfl, by decide +kernel, rfl, by decide +kernel, by decide +kernel⟩
theorem sc_l_new : FnScope ["_law_one", "_law_other"] ["_law_one", "_law_other"] (defScope s_l_new) := ⟨rfl, rfl, rfl, by decide +kernel, rfl, by decide +kernel, by decide +kernel⟩
theorem sc_l_inside : FnScope ["_law_one", "_law_other"] ["_law_one", "_law_other"] (defScope s_l_inside) := ⟨rfl, rfl, rfl, by decide +kernel, rfl, by decide +kernel, by decide +kernel⟩
theorem sc_l_span_of : FnScope ["_law_one", "_law_other"] ["_law_one", "_law_other"] (defScope s_l_span_of) := ⟨rfl, rfl, rfl, by decide +kernel, rfl, by decide +kernel, by decide +kernel⟩
theorem sc_l_least_of : FnScope ["_law_one", "_law_other"] ["_law_one", "_law_other"] (defScope s_l_least_of) := ⟨rfl, rfl, rfl, by decide +kernel, rfl, by decide +kernel, by decide +kernel⟩
theorem sc_l_bad : FnScope ["_law_bag_here", "_law_word", "_law_at", "_law_odd"] ["_law_bag_here", "_law_word"] (defScope s_l_bad) := ⟨rfl, rfl, rfl, by decide +kernel, rfl, by decide +kernel, by decide +kernel⟩
theorem sc_l_all_refused : FnScope ["_law_held", "_law_thing", "_law_made"] ["_law_held", "_law_thing"] (defScope s_l_all_refused) := ⟨rfl, rfl, rfl, by decide +kernel, rfl, by decide +kernel, by decide +kernel⟩
theorem sc_l_span : FnScope ["_law_low", "_law_high", "_law_signs", "_law_first", "_law_last", "_law_span_here", "_law_thing"] ["_law_low", "_law_high"] (defScope s_l_span) := ⟨rfl, rfl, rfl, by decide +kernel, rfl, by decide +kernel, by decide +kernel⟩
theorem sc_law : FnScope ["_law_script", "_law_bag_here", "_law_word", "_law_held", "_law_thing", "_law_field", "_law_sign", "_law_empty"] ["_law_script"] (defScope s_law) := ⟨rfl, rfl, rfl, by decide +kernel, rfl, by decide +kernel, by decide +kernel⟩
/-! ### what the top leaves -/
def d_Signs_init_ : He.DefD := ⟨("Signs", some "__init__"), "__init__", "Signs.__init__", defArgs s_Signs_init_, defBody s_Signs_init_, defScope s_Signs_init_, [.str ""], []⟩
def d_Signsspan : He.DefD := ⟨("Signs", some "span"), "span", "Signs.span", defArgs s_Signsspan, defBody s_Signsspan, defScope s_Signsspan, [], []⟩
def d_Signsletters : He.DefD := ⟨("Signs", some "letters"), "letters", "Signs.letters", defArgs s_Signsletters, defBody s_Signsletters, defScope s_Signsletters, [], []⟩
def d_Signscapitals : He.DefD := ⟨("Signs", some "capitals"), "capitals", "Signs.capitals", defArgs s_Signscapitals, defBody s_Signscapitals, defScope s_Signscapitals, [], []⟩
def d_Signsdigits : He.DefD := ⟨("Signs", some "digits"), "digits", "Signs.digits", defArgs s_Signsdigits, defBody s_Signsdigits, defScope s_Signsdigits, [], []⟩
def d_Signs_or_ : He.DefD := ⟨("Signs", some "__or__"), "__or__", "Signs.__or__", defArgs s_Signs_or_, defBody s_Signs_or_, defScope s_Signs_or_, [], []⟩
def d_Signs_ror_ : He.DefD := ⟨("Signs", some "__ror__"), "__ror__", "Signs.__ror__", defArgs s_Signs_ror_, defBody s_Signs_ror_, defScope s_Signs_ror_, [], []⟩
def d_Signs_ior_ : He.DefD := ⟨("Signs", some "__ior__"), "__ior__", "Signs.__ior__", defArgs s_Signs_ior_, defBody s_Signs_ior_, defScope s_Signs_ior_, [], []⟩
def d_Signs_and_ : He.DefD := ⟨("Signs", some "__and__"), "__and__", "Signs.__and__", defArgs s_Signs_and_, defBody s_Signs_and_, defScope s_Signs_and_, [], []⟩
def d_Signs_rand_ : He.DefD := ⟨("Signs", some "__rand__"), "__rand__", "Signs.__rand__", defArgs s_Signs_rand_, defBody s_Signs_rand_, defScope s_Signs_rand_, [], []⟩
def d_Signs_sub_ : He.DefD := ⟨("Signs", some "__sub__"), "__sub__", "Signs.__sub__", defArgs s_Signs_sub_, defBody s_Signs_sub_, defScope s_Signs_sub_, [], []⟩
def d_Signs_rsub_ : He.DefD := ⟨("Signs", some "__rsub__"), "__rsub__", "Signs.__rsub__", defArgs s_Signs_rsub_, defBody s_Signs_rsub_, defScope s_Signs_rsub_, [], []⟩
def d_Signs_eq_ : He.DefD := ⟨("Signs", some "__eq__"), "__eq__", "Signs.__eq__", defArgs s_Signs_eq_, defBody s_Signs_eq_, defScope s_Signs_eq_, [], []⟩
def d_Signs_contains_ : He.DefD := ⟨("Signs", some "__contains__"), "__contains__", "Signs.__contains__", defArgs s_Signs_contains_, defBody s_Signs_contains_, defScope s_Signs_contains_, [], []⟩
def d_Signswithin : He.DefD := ⟨("Signs", some "within"), "within", "Signs.within", defArgs s_Signswithin, defBody s_Signswithin, defScope s_Signswithin, [], []⟩
def d_Signsleast : He.DefD := ⟨("Signs", some "least"), "least", "Signs.least", defArgs s_Signsleast, defBody s_Signsleast, defScope s_Signsleast, [], []⟩
def d_Signsspelled : He.DefD := ⟨("Signs", some "spelled"), "spelled", "Signs.spelled", defArgs s_Signsspelled, defBody s_Signsspelled, defScope s_Signsspelled, [], []⟩
def d_is_sign : He.DefD := ⟨("is_sign", none), "is_sign", "is_sign", defArgs s_is_sign, defBody s_is_sign, defScope s_is_sign, [], []⟩
def d_is_sign_text : He.DefD := ⟨("is_sign_text", none), "is_sign_text", "is_sign_text", defArgs s_is_sign_text, defBody s_is_sign_text, defScope s_is_sign_text, [], []⟩
def d_is_signs : He.DefD := ⟨("is_signs", none), "is_signs", "is_signs", defArgs s_is_signs, defBody s_is_signs, defScope s_is_signs, [], []⟩
def d_signs_of : He.DefD := ⟨("signs_of", none), "signs_of", "signs_of", defArgs s_signs_of, defBody s_signs_of, defScope s_signs_of, [], []⟩
def d_kept_signs : He.DefD := ⟨("kept_signs", none), "kept_signs", "kept_signs", defArgs s_kept_signs, defBody s_kept_signs, defScope s_kept_signs, [], []⟩
def d_other_signs : He.DefD := ⟨("other_signs", none), "other_signs", "other_signs", defArgs s_other_signs, defBody s_other_signs, defScope s_other_signs, [], []⟩
def d_is_integer : He.DefD := ⟨("is_integer", none), "is_integer", "is_integer", defArgs s_is_integer, defBody s_is_integer, defScope s_is_integer, [], []⟩
def d_is_integer_within : He.DefD := ⟨("is_integer_within", none), "is_integer_within", "is_integer_within", defArgs s_is_integer_within, defBody s_is_integer_within, defScope s_is_integer_within, [], []⟩
def d_is_row : He.DefD := ⟨("is_row", none), "is_row", "is_row", defArgs s_is_row, defBody s_is_row, defScope s_is_row, [], []⟩
def d_is_name : He.DefD := ⟨("is_name", none), "is_name", "is_name", defArgs s_is_name, defBody s_is_name, defScope s_is_name, [], []⟩
def d_Net_init_ : He.DefD := ⟨("Net", some "__init__"), "__init__", "Net.__init__", defArgs s_Net_init_, defBody s_Net_init_, defScope s_Net_init_, [], []⟩
def d_places_by_char : He.DefD := ⟨("places_by_char", none), "places_by_char", "places_by_char", defArgs s_places_by_char, defBody s_places_by_char, defScope s_places_by_char, [], []⟩
def d_place_count : He.DefD := ⟨("place_count", none), "place_count", "place_count", defArgs s_place_count, defBody s_place_count, defScope s_place_count, [], []⟩
def d_run_net : He.DefD := ⟨("run_net", none), "run_net", "run_net", defArgs s_run_net, defBody s_run_net, defScope s_run_net, [], []⟩
def d_renumbered : He.DefD := ⟨("renumbered", none), "renumbered", "renumbered", defArgs s_renumbered, defBody s_renumbered, defScope s_renumbered, [], []⟩
def d_chained : He.DefD := ⟨("chained", none), "chained", "chained", defArgs s_chained, defBody s_chained, defScope s_chained, [], []⟩
def d_side_by_side : He.DefD := ⟨("side_by_side", none), "side_by_side", "side_by_side", defArgs s_side_by_side, defBody s_side_by_side, defScope s_side_by_side, [], []⟩
def d_under_each_other : He.DefD := ⟨("under_each_other", none), "under_each_other", "under_each_other", defArgs s_under_each_other, defBody s_under_each_other, defScope s_under_each_other, [], []⟩
def d_stand_from : He.DefD := ⟨("stand_from", none), "stand_from", "stand_from", defArgs s_stand_from, defBody s_stand_from, defScope s_stand_from, [], []⟩
def d_stand_after : He.DefD := ⟨("stand_after", none), "stand_after", "stand_after", defArgs s_stand_after, defBody s_stand_after, defScope s_stand_after, [], []⟩
def d_takes : He.DefD := ⟨("takes", none), "takes", "takes", defArgs s_takes, defBody s_takes, defScope s_takes, [], []⟩
def d_Kind_init_ : He.DefD := ⟨("Kind", some "__init__"), "__init__", "Kind.__init__", defArgs s_Kind_init_, defBody s_Kind_init_, defScope s_Kind_init_, [], []⟩
def d_Kindrun : He.DefD := ⟨("Kind", some "run"), "run", "Kind.run", defArgs s_Kindrun, defBody s_Kindrun, defScope s_Kindrun, [.int 1, .int 1], []⟩
def d_Kindhas_empty : He.DefD := ⟨("Kind", some "has_empty"), "has_empty", "Kind.has_empty", defArgs s_Kindhas_empty, defBody s_Kindhas_empty, defScope s_Kindhas_empty, [], []⟩
def d_are_bounds : He.DefD := ⟨("are_bounds", none), "are_bounds", "are_bounds", defArgs s_are_bounds, defBody s_are_bounds, defScope s_are_bounds, [], []⟩
def d_without_repeats : He.DefD := ⟨("without_repeats", none), "without_repeats", "without_repeats", defArgs s_without_repeats, defBody s_without_repeats, defScope s_without_repeats, [], []⟩
def d_is_too_large : He.DefD := ⟨("is_too_large", none), "is_too_large", "is_too_large", defArgs s_is_too_large, defBody s_is_too_large, defScope s_is_too_large, [], []⟩
def d_alternative_net : He.DefD := ⟨("alternative_net", none), "alternative_net", "alternative_net", defArgs s_alternative_net, defBody s_alternative_net, defScope s_alternative_net, [], []⟩
def d_Field_init_ : He.DefD := ⟨("Field", some "__init__"), "__init__", "Field.__init__", defArgs s_Field_init_, defBody s_Field_init_, defScope s_Field_init_, [], []⟩
def d_Mark_init_ : He.DefD := ⟨("Mark", some "__init__"), "__init__", "Mark.__init__", defArgs s_Mark_init_, defBody s_Mark_init_, defScope s_Mark_init_, [], []⟩
def d_Maybe_init_ : He.DefD := ⟨("Maybe", some "__init__"), "__init__", "Maybe.__init__", defArgs s_Maybe_init_, defBody s_Maybe_init_, defScope s_Maybe_init_, [], []⟩
def d_is_field_kind : He.DefD := ⟨("is_field_kind", none), "is_field_kind", "is_field_kind", defArgs s_is_field_kind, defBody s_is_field_kind, defScope s_is_field_kind, [], []⟩
def d_is_item : He.DefD := ⟨("is_item", none), "is_item", "is_item", defArgs s_is_item, defBody s_is_item, defScope s_is_item, [], []⟩
def d_has_own_field : He.DefD := ⟨("has_own_field", none), "has_own_field", "has_own_field", defArgs s_has_own_field, defBody s_has_own_field, defScope s_has_own_field, [], []⟩
def d_fields_in : He.DefD := ⟨("fields_in", none), "fields_in", "fields_in", defArgs s_fields_in, defBody s_fields_in, defScope s_fields_in, [], []⟩
def d_depth_around : He.DefD := ⟨("depth_around", none), "depth_around", "depth_around", defArgs s_depth_around, defBody s_depth_around, defScope s_depth_around, [], []⟩
def d_item_size : He.DefD := ⟨("item_size", none), "item_size", "item_size", defArgs s_item_size, defBody s_item_size, defScope s_item_size, [], []⟩
def d_row_size : He.DefD := ⟨("row_size", none), "row_size", "row_size", defArgs s_row_size, defBody s_row_size, defScope s_row_size, [], []⟩
def d_joined : He.DefD := ⟨("joined", none), "joined", "joined", defArgs s_joined, defBody s_joined, defScope s_joined, [], []⟩
def d_check_lines : He.DefD := ⟨("check_lines", none), "check_lines", "check_lines", defArgs s_check_lines, defBody s_check_lines, defScope s_check_lines, [], []⟩
def d_is_item_row : He.DefD := ⟨("is_item_row", none), "is_item_row", "is_item_row", defArgs s_is_item_row, defBody s_is_item_row, defScope s_is_item_row, [], []⟩
def d_lines_size : He.DefD := ⟨("lines_size", none), "lines_size", "lines_size", defArgs s_lines_size, defBody s_lines_size, defScope s_lines_size, [], []⟩
def d_lines_net : He.DefD := ⟨("lines_net", none), "lines_net", "lines_net", defArgs s_lines_net, defBody s_lines_net, defScope s_lines_net, [], []⟩
def d_row_net : He.DefD := ⟨("row_net", none), "row_net", "row_net", defArgs s_row_net, defBody s_row_net, defScope s_row_net, [], []⟩
def d_item_net : He.DefD := ⟨("item_net", none), "item_net", "item_net", defArgs s_item_net, defBody s_item_net, defScope s_item_net, [], []⟩
def d_lines_holders : He.DefD := ⟨("lines_holders", none), "lines_holders", "lines_holders", defArgs s_lines_holders, defBody s_lines_holders, defScope s_lines_holders, [], []⟩
def d_row_holders : He.DefD := ⟨("row_holders", none), "row_holders", "row_holders", defArgs s_row_holders, defBody s_row_holders, defScope s_row_holders, [], []⟩
def d_owner_sets : He.DefD := ⟨("owner_sets", none), "owner_sets", "owner_sets", defArgs s_owner_sets, defBody s_owner_sets, defScope s_owner_sets, [], []⟩
def d_Form_init_ : He.DefD := ⟨("Form", some "__init__"), "__init__", "Form.__init__", defArgs s_Form_init_, defBody s_Form_init_, defScope s_Form_init_, [], []⟩
def d_l_bag : He.DefD := ⟨("_law_bag", none), "_law_bag", "_law_bag", defArgs s_l_bag, defBody s_l_bag, defScope s_l_bag, [], []⟩
def d_l_draw : He.DefD := ⟨("_law_draw", none), "_law_draw", "_law_draw", defArgs s_l_draw, defBody s_l_draw, defScope s_l_draw, [], []⟩
def d_l_alphabet : He.DefD := ⟨("_law_alphabet", none), "_law_alphabet", "_law_alphabet", defArgs s_l_alphabet, defBody s_l_alphabet, defScope s_l_alphabet, [], []⟩
def d_l_letters : He.DefD := ⟨("_law_letters", none), "_law_letters", "_law_letters", defArgs s_l_letters, defBody s_l_letters, defScope s_l_letters, [], []⟩
def d_l_refused : He.DefD := ⟨("_law_refused", none), "_law_refused", "_law_refused", defArgs s_l_refused, defBody s_l_refused, defScope s_l_refused, [], []⟩
def d_l_or : He.DefD := ⟨("_law_or", none), "_law_or", "_law_or", defArgs s_l_or, defBody s_l_or, defScope s_l_or, [], []⟩
def d_l_and : He.DefD := ⟨("_law_and", none), "_law_and", "_law_and", defArgs s_l_and, defBody s_l_and, defScope s_l_and, [], []⟩
def d_l_less : He.DefD := ⟨("_law_less", none), "_law_less", "_law_less", defArgs s_l_less, defBody s_l_less, defScope s_l_less, [], []⟩
def d_l_or_in_place : He.DefD := ⟨("_law_or_in_place", none), "_law_or_in_place", "_law_or_in_place", defArgs s_l_or_in_place, defBody s_l_or_in_place, defScope s_l_or_in_place, [], []⟩
def d_l_new : He.DefD := ⟨("_law_new", none), "_law_new", "_law_new", defArgs s_l_new, defBody s_l_new, defScope s_l_new, [], []⟩
def d_l_inside : He.DefD := ⟨("_law_inside", none), "_law_inside", "_law_inside", defArgs s_l_inside, defBody s_l_inside, defScope s_l_inside, [], []⟩
def d_l_span_of : He.DefD := ⟨("_law_span_of", none), "_law_span_of", "_law_span_of", defArgs s_l_span_of, defBody s_l_span_of, defScope s_l_span_of, [], []⟩
def d_l_least_of : He.DefD := ⟨("_law_least_of", none), "_law_least_of", "_law_least_of", defArgs s_l_least_of, defBody s_l_least_of, defScope s_l_least_of, [], []⟩
def d_l_bad : He.DefD := ⟨("_law_bad", none), "_law_bad", "_law_bad", defArgs s_l_bad, defBody s_l_bad, defScope s_l_bad, [], []⟩
def d_l_all_refused : He.DefD := ⟨("_law_all_refused", none), "_law_all_refused", "_law_all_refused", defArgs s_l_all_refused, defBody s_l_all_refused, defScope s_l_all_refused, [], []⟩
def d_l_span : He.DefD := ⟨("_law_span", none), "_law_span", "_law_span", defArgs s_l_span, defBody s_l_span, defScope s_l_span, [], []⟩
def d_law : He.DefD := ⟨("law", none), "law", "law", defArgs s_law, defBody s_law, defScope s_law, [], []⟩
def fn : List He.DefD := [d_Signs_init_, d_Signs_or_, d_Signs_ror_, d_Signs_ior_, d_Signs_and_, d_Signs_rand_, d_Signs_sub_, d_Signs_rsub_, d_Signs_eq_, d_Signs_contains_, d_Signswithin, d_Signsleast, d_Signsspelled, d_is_sign, d_is_sign_text, d_is_signs, d_signs_of, d_kept_signs, d_other_signs, d_is_integer, d_is_integer_within, d_is_row, d_is_name, d_Net_init_, d_places_by_char, d_place_count, d_run_net, d_renumbered, d_chained, d_side_by_side, d_under_each_other, d_stand_from, d_stand_after, d_takes, d_Kind_init_, d_are_bounds, d_without_repeats, d_is_too_large, d_alternative_net, d_Field_init_, d_Mark_init_, d_Maybe_init_, d_is_field_kind, d_is_item, d_has_own_field, d_fields_in, d_depth_around, d_item_size, d_row_size, d_joined, d_check_lines, d_is_item_row, d_lines_size, d_lines_net, d_row_net, d_item_net, d_lines_holders, d_row_holders, d_owner_sets, d_Form_init_, d_l_bag, d_l_draw, d_l_alphabet, d_l_letters, d_l_refused, d_l_or, d_l_and, d_l_less, d_l_or_in_place, d_l_new, d_l_inside, d_l_span_of, d_l_least_of, d_l_bad, d_l_all_refused, d_l_span, d_law]
def sd : List Tl.StD := [⟨"Signs", "span", d_Signsspan⟩, ⟨"Signs", "letters", d_Signsletters⟩, ⟨"Signs", "capitals", d_Signscapitals⟩, ⟨"Signs", "digits", d_Signsdigits⟩, ⟨"Kind", "run", d_Kindrun⟩]
def pd : List Tl.PrD := [⟨"Kind", "has_empty", d_Kindhas_empty⟩]
def fa : List He.Fa := [.glo "is_sign", .glo "is_sign_text", .glo "is_signs", .glo "signs_of", .glo "kept_signs", .glo "other_signs", .glo "is_integer", .glo "is_integer_within", .glo "is_row", .glo "is_name", .glo "places_by_char", .glo "place_count", .glo "run_net", .glo "renumbered", .glo "chained", .glo "side_by_side", .glo "under_each_other", .glo "stand_from", .glo "stand_after", .glo "takes", .glo "are_bounds", .glo "without_repeats", .glo "is_too_large", .glo "alternative_net", .glo "is_field_kind", .glo "is_item", .glo "has_own_field", .glo "fields_in", .glo "depth_around", .glo "item_size", .glo "row_size", .glo "joined", .glo "check_lines", .glo "is_item_row", .glo "lines_size", .glo "lines_net", .glo "row_net", .glo "item_net", .glo "lines_holders", .glo "row_holders", .glo "owner_sets", .glo "_law_bag", .glo "_law_draw", .glo "_law_alphabet", .glo "_law_letters", .glo "_law_refused", .glo "_law_or", .glo "_law_and", .glo "_law_less", .glo "_law_or_in_place", .glo "_law_new", .glo "_law_inside", .glo "_law_span_of", .glo "_law_least_of", .glo "_law_bad", .glo "_law_all_refused", .glo "_law_span", .glo "law", .glo "Signs", .cls "Signs", .mkr "Signs", .meth "Signs" "__init__", .meth "Signs" "__or__", .meth "Signs" "__ror__", .meth "Signs" "__ior__", .meth "Signs" "__and__", .meth "Signs" "__rand__", .meth "Signs" "__sub__", .meth "Signs" "__rsub__", .meth "Signs" "__eq__", .meth "Signs" "__contains__", .meth "Signs" "within", .meth "Signs" "least", .meth "Signs" "spelled", .noat "Signs" "signs", .glo "Net", .cls "Net", .mkr "Net", .meth "Net" "__init__", .noat "Net" "chars", .noat "Net" "follow", .noat "Net" "exits", .noat "Net" "stands_for", .glo "Kind", .cls "Kind", .mkr "Kind", .meth "Kind" "__init__", .noat "Kind" "rows", .noat "Kind" "net", .glo "Field", .cls "Field", .mkr "Field", .meth "Field" "__init__", .noat "Field" "name", .noat "Field" "kind", .glo "Mark", .cls "Mark", .mkr "Mark", .meth "Mark" "__init__", .noat "Mark" "text", .glo "Maybe", .cls "Maybe", .mkr "Maybe", .meth "Maybe" "__init__", .noat "Maybe" "parts", .glo "Form", .cls "Form", .mkr "Form", .meth "Form" "__init__", .noat "Form" "lines", .noat "Form" "fields", .noat "Form" "net", .noat "Form" "holders", .noat "Form" "owner_sets", .glo "TownError", .glo "BadText", .glo "BadKind", .exc "BadKind", .glo "BadSigns", .exc "BadSigns", .free "isinstance", .free "int", .free "bool", .free "list", .free "tuple", .free "str", .free "all", .free "any", .free "sum", .free "len", .free "enumerate", .free "range", .free "max", .free "sorted", .free "min", .int "START" 1, .int "MOST_ALTERNATIVES" 20, .int "MOST_RUNS" 20, .int "MOST_PLACES_kinds" 120, .int "HIGHEST_BOUND" 40, .int "LONGEST_NAME" 12, .int "LONGEST_MARK" 200, .int "DEEPEST_GROUP" 3, .int "MOST_PLACES_items" 200, .int "MOST_LINES" 10, .int "MOST_FIELDS" 12, .str "SIGNS" " !\"#$&'()*+,-./0123456789:;<=>?@ABCDEFGHIJKLMNOPQRSTUVWXYZ[\\]^_`abcdefghijklmnopqrstuvwxyz{|}~", .free "ValueError"]
def ex (K : PySem.W.Frag) : Bool := (Tl.famB K [He.ga K "Signs", He.ga K "Kind", He.ga K "Field", He.ga K "Mark", He.ga K "Maybe", He.ga K "Form"] && ((Tl.forB K (He.ga K "Signs") .BitOr [He.ga K "Field", He.ga K "Mark", He.ga K "Maybe", He.ga K "Form"] && Tl.forB K (He.ga K "Signs") .BitAnd [He.ga K "Field", He.ga K "Mark", He.ga K "Maybe", He.ga K "Form"]) && Tl.forB K (He.ga K "Signs") .Sub [He.ga K "Field", He.ga K "Mark", He.ga K "Maybe", He.ga K "Form"])) && (Tl.errAB K (He.ga K "BadSigns") (He.ga K "TownError") [He.ga K "BadText", He.ga K "BadKind"] && (([He.ga K "Kind", He.ga K "Field", He.ga K "Mark", He.ga K "Maybe", He.ga K "Form"].all fun D => PySem.W.notFirst K (He.ga K "Signs") (.ref D)) && PySem.W.notFirst K (He.ga K "Signs") (.type "str")))
abbrev R : PySem.W.OpenRow := PySem.W.OpenLaw.row PySem.Challenge.rw_townlines_k02_signs_refuse
abbrev hk : PySem.W.Hook := Tl.hookQ fa fn sd pd ex
def ob (s : PySem.W.SharedT) : Tl.AlP := Tl.obsQ fa fn sd pd ex (HandSHeadRun.getT s)
theorem ob_eq (s : PySem.W.SharedT) : ob s = hk.obs s.abs := Tl.obsQ_eq (HandSHeadRun.getT_eq s)
abbrev loose : List PySem.Str := (["_wall", "__name__", "TownError", "BadSigns", "BadText", "BadKind", "TooLarge", "BadItem", "BadForm", "BadName", "Unknown", "Missing", "BadValue", "BadNumber", "SIGNS", "Signs", "is_sign", "is_sign_text", "is_signs", "signs_of", "kept_signs", "other_signs", "LONGEST_NAME", "is_integer", "is_integer_within", "is_row", "is_name", "text_order", "START", "FEED"] : List PySem.Str) ++ (["Net", "places_by_char", "place_count", "run_net", "text_net", "or_nothing", "renumbered", "chained", "side_by_side", "line_added", "under_each_other", "indexes_in", "places_in", "together", "places_after", "stand_from", "stand_after", "takes", "MOST_ALTERNATIVES", "MOST_RUNS", "MOST_PLACES_kinds", "MOST_TEXTS", "LONGEST_TEXT_kinds", "HIGHEST_BOUND", "MOST_OPERANDS", "Kind", "are_bounds", "is_short_text", "without_repeats", "is_too_large"] : List PySem.Str) ++ (["alternative_net", "least_word", "LONGEST_MARK", "DEEPEST_GROUP", "MOST_PLACES_items", "Field", "Mark", "Maybe", "is_field_kind", "is_item", "has_own_field", "fields_in", "depth_around", "item_size", "row_size", "joined", "MOST_LINES", "MOST_FIELDS", "check_lines", "is_item_row", "lines_size", "lines_net", "row_net", "item_net", "lines_holders", "row_holders", "owner_sets", "row_without", "BACKSLASH", "SPECIAL_SIGNS"] : List PySem.Str) ++ (["spelled_lines", "spelled_row", "spelled_item", "LONGEST_TEXT_characters", "written_pieces", "check_record", "missing_names", "has_some_field", "row_pieces", "Form", "check_known", "_law_bag", "_law_draw", "_law_alphabet", "_law_letters", "_law_refused", "_law_or", "_law_and", "_law_less", "_law_or_in_place", "_law_new", "_law_inside", "_law_span_of", "_law_least_of", "_law_bad", "_law_all_refused", "_law_span"] : List PySem.Str)
section
open PySem.W PySem.Calls
/-- the state behind the top -/
noncomputable abbrev topEnd (w : World) (os : OsState) : Option SharedT := HandSHeadRun.endF (HandSHeadRun.stepQ (HandSHeadRun.denQ HandSHeadRun.tabQ) R.prog w) 60000 R.prog w os
theorem glue {α β γ δ : Type} {X : Option α} {f : α → β} {g : α → γ} {h : α → δ} {b : β} {c : γ} {d : δ} (h1 : X.map (fun s => (f s, g s)) = some (b, c)) (h2 : X.map h = some d) : X.map (fun s => (f s, g s, h s)) = some (b, c, d) := by
  cases X with
  | none => cases h1
  | some s =>
    have e1 : (f s, g s) = (b, c) := Option.some.inj h1
    have e2 : h s = d := Option.some.inj h2
    show some (f s, g s, h s) = some (b, c, d)
    injection e1 with e3 e4
    rw [e2, e3, e4]
set_option maxHeartbeats 0 in
theorem run1 (w : World) (os : OsState) : (topEnd w os).map (fun s => (HandSHeadRun.looksF R.prog (boot_heap w.params) s.abs, HandSHeadRun.seenQ (view R.prog [127]) loose (importedModules R.prog.main.body) (fun s => xlAt (view R.prog [127]) [] s && recOk R.toRowW.records s) s.abs)) = some (true, openGood (view R.prog [127]) loose) := by
  kernel_rfl
set_option maxHeartbeats 0 in
theorem run2 (w : World) (os : OsState) : (topEnd w os).map ob = some (hk.val w) := by
  kernel_rfl
end
end K02

set_option autoImplicit false
set_option maxErrors 4
namespace K02
open PySem PySem.Spec PyProof.Rows L2
theorem run (w : World) : HandSHeadRun.RunEq R (PySem.W.view R.prog [127]) hk ob 60000 loose w := fun os => glue (run1 w os) (run2 w os)
end K02

/-! Texts as lists of codes: list(text), text * n, join of signs. -/
namespace Tl
open PySem PySem.Spec PyProof.Rows L2
/-- the text of these codes -/
def tx (l : List Nat) : Str := ⟨l.toArray⟩
def cs (z : Str) : List Nat := z.cps.toList
/-- the text of one sign -/
def sg (n : Nat) : Str := ⟨#[n]⟩
theorem cs_tx (l : List Nat) : cs (tx l) = l := rfl
theorem tx_cs (z : Str) : tx (cs z) = z := by
  obtain ⟨⟨l⟩⟩ := z
  rfl
theorem tx_inj {l k : List Nat} (h : tx l = tx k) : l = k := congrArg cs h
theorem tx_eq {l k : List Nat} : tx l = tx k ↔ l = k := ⟨tx_inj, fun e => by rw [e]⟩
theorem len_tx (l : List Nat) : (tx l).length = l.length := rfl
theorem len_cs (z : Str) : (cs z).length = z.length := Array.length_toList
theorem sg_inj {n m : Nat} (h : sg n = sg m) : n = m := by
  have e : [n] = [m] := congrArg cs h
  injection e
theorem tx_app (l k : List Nat) : tx l ++ tx k = tx (l ++ k) := by
  show (⟨l.toArray ++ k.toArray⟩ : Str) = ⟨(l ++ k).toArray⟩
  rw [List.append_toArray]
theorem glue_sg : ∀ (l : List Nat) (a : Array Nat), (l.map sg).foldl (fun acc p => acc ++ (tx []).cps ++ p.cps) a = a ++ l.toArray
  | [], a => by simp
  | n :: l, a => by
    rw [List.map_cons, List.foldl_cons, glue_sg l]
    simp [tx, sg]
theorem join_sg (l : List Nat) : Txt.join (tx []) (l.map sg) = tx l := by
  cases l with
  | nil => rfl
  | cons n l =>
    show (⟨((List.map sg (n :: l)).drop 1).foldl _ _⟩ : Str) = _
    rw [List.map_cons, List.drop_one, List.tail_cons, glue_sg]
    show (⟨#[n] ++ l.toArray⟩ : Str) = ⟨(n :: l).toArray⟩
    congr 1
    simp
theorem sum_sg (l : List Nat) : ((l.map sg).map (·.length)).sum = l.length := by
  induction l with
  | nil => rfl
  | cons n l ih =>
    rw [List.map_cons, List.map_cons, List.sum_cons, ih, List.length_cons]
    show 1 + l.length = l.length + 1
    omega
theorem fold_rep (x : Array Nat) : ∀ (k : Nat) (a : Array Nat), ((List.replicate k x).foldl (· ++ ·) a).toList = a.toList ++ (List.replicate k x.toList).flatten
  | 0, a => by simp
  | k + 1, a => by
    rw [List.replicate_succ, List.foldl_cons, fold_rep x k, List.replicate_succ, List.flatten_cons, Array.toList_append, List.append_assoc]
theorem mul_cs (z : Str) (k : Nat) : cs (Txt.mul z (k : Int)) = (List.replicate k (cs z)).flatten := by
  unfold Txt.mul
  by_cases h0 : (k : Int) < 1
  · rw [if_pos h0]
    have e : k = 0 := by omega
    subst e
    rfl
  · rw [if_neg h0]
    by_cases h1 : ((k : Int) == 1 || z.length == 0) = true
    · rw [if_pos h1]
      rcases Bool.or_eq_true_iff.mp h1 with e | e
      · have e : k = 1 := by
          have := beq_iff_eq.mp e
          omega
        subst e
        show cs z = (List.replicate 1 (cs z)).flatten
        simp [List.replicate]
      · have e1 : cs z = [] := by
          apply List.eq_nil_of_length_eq_zero
          rw [len_cs]
          exact beq_iff_eq.mp e
        rw [e1]
        induction k with
        | zero => rfl
        | succ k ih => simp
    · rw [if_neg h1]
      show ((List.replicate (k : Int).toNat z.cps).foldl (· ++ ·) #[]).toList = _
      rw [fold_rep, Int.toNat_natCast]
      rfl
section
variable {X : Cx}
/-- list(z), z a text -/
theorem call_listTx (hc : X.calm = true) : CallR X (.type "list") (fun vs H Q => ∃ l : List Nat, vs = [.str (tx l)] ∧ l.length ≤ sizeLine ∧ ∀ p, H p = none → Q (.ref p) (upd H p (.lst (l.map fun n => V.str (sg n))))) := by
  intro pins s σ H vs us Q I r h
  obtain ⟨l, rfl, hz, q⟩ := h
  obtain ⟨u, rfl, rx⟩ := vals1 r
  obtain ⟨t, rfl⟩ := rx
  refine call_list_str (I.ok.hd hc) (tx l) t (hn := hz) fun hq tk acc c hk hS hacc => ?_
  have hv : Vals (l.map fun n => V.str (sg n)) acc.toList := by
    have key : ∀ (k : List Nat) (us : List Value), us.length = k.length → (∀ (j : Nat) (v : Value), us[j]? = some v → ∃ (n : Nat) (u : Tok), k[j]? = some n ∧ v = Value.str (sg n) u) → Vals (k.map fun n => V.str (sg n)) us := by
      intro k
      induction k with
      | nil =>
        intro us hl _
        cases us with
        | nil => exact .nil
        | cons _ _ => cases hl
      | cons n k ih =>
        intro us hl h
        cases us with
        | nil => cases hl
        | cons v us =>
          obtain ⟨n', u, e1, e2⟩ := h 0 v rfl
          have e : n = n' := Option.some.inj e1
          subst e
          exact .cons ⟨u, e2⟩ (ih us (Nat.succ.inj hl) fun j v e => h (j + 1) v e)
    refine key l acc.toList (by rw [Array.length_toList]; exact hacc.1) fun j v e => ?_
    obtain ⟨n, u, e1, e2⟩ := hacc.2 j v (by rw [← Array.getElem?_toList]; exact e)
    exact ⟨n, u, by rw [← e1]; simp [tx], e2⟩
  exact ⟨.ref s.heap.objs.size, _, I.laid (t' := tk) hk (Nat.le_refl _) (show ObjOk X.prog X.w _ hq _ (.lst (l.map fun n => V.str (sg n))) from ⟨by rw [List.length_map]; exact hz, acc.toList, c, hv, by rw [Array.toArray_toList]; exact hS⟩), rfl, q _ (I.hok.fresh (Nat.le_refl _))⟩
/-- z * k -/
theorem op_mulTx : OpR X (binaryOp .Mult) (fun x y H Q => ∃ (l : List Nat) (k : Nat), x = .str (tx l) ∧ y = .int k ∧ k ≤ 1000000 ∧ l.length * k ≤ 16777216 ∧ Q (.str (tx (List.replicate k l).flatten)) H) := by
  intro pins s σ H x y v u Q I rx ry h
  obtain ⟨l, k, rfl, rfl, hk, hl, q⟩ := h
  obtain ⟨t, rfl⟩ := rx
  obtain ⟨t', rfl⟩ := ry
  have e : Txt.mul (tx l) (k : Int) = tx (List.replicate k l).flatten := by
    rw [← tx_cs (Txt.mul (tx l) (k : Int)), mul_cs, cs_tx]
  refine PySem.SB.mul (x := tx l) (n := (k : Int)) ⟨?_, fun h1 _ => ?_, fun h1 _ => ?_⟩ fun t2 tk => ?_
  · rw [decide_eq_false (by omega), decide_eq_false (by omega)]
    rfl
  · rw [len_tx]
    have h2 : 1 ≤ (k : Int) := by omega
    have h3 : (l.length : Int) ≤ 16777216 := by
      have : l.length ≤ l.length * k := Nat.le_mul_of_pos_right _ (by omega)
      omega
    have h4 : (16777216 : Int) ≤ (2 ^ 63 - 1) / (k : Int) := by
      apply Int.le_ediv_of_mul_le (by omega)
      omega
    omega
  · unfold Builtin.Str.tooLong
    rw [len_tx, Int.toNat_natCast, sizeLine_eq]
    exact decide_eq_false (by omega)
  · rw [e]
    exact ⟨.str (tx (List.replicate k l).flatten), H, I.tok tk, ⟨t2, rfl⟩, q⟩
end
end Tl

namespace K02
open PySem PySem.Spec PyProof.Rows L2 Tl
/-- a def of no defaults as the top leaves it -/
abbrev FnP (K : PySem.W.Frag) (x qual : Str) (st : Stmt) (f : Addr) (fd : FuncData) : Prop := FunD K x qual (defArgs st) (defBody st) (defScope st) [] [] f fd
/-! ### the bag that is drawn from -/
def bagL (c : Addr) (n m k : Int) : List V := [.ref c, .int n, .int m, .int k]
structure Bag (H : Hp) (b c : Addr) : Prop where
  top : ∃ n m k : Int, H b = some (.lst (bagL c n m k))
  cells : ∃ ns : List Int, H c = some (.lst (ns.map V.int))
theorem Bag.ne {H : Hp} {b c : Addr} (B : Bag H b c) : b ≠ c := fun e => by
  obtain ⟨n, m, k, h1⟩ := B.top
  obtain ⟨ns, h2⟩ := B.cells
  rw [e, h2] at h1
  have h3 := HO.lst.inj (Option.some.inj h1)
  cases ns with
  | nil => cases h3
  | cons x r =>
    injection h3 with h4 _
    cases h4
/-- all but the bag stands as it stood -/
def Kept (b c : Addr) (H H' : Hp) : Prop := ∀ x o, H x = some o → x ≠ b → x ≠ c → H' x = some o
theorem Kept.refl {b c : Addr} {H : Hp} : Kept b c H H := fun _ _ e _ _ => e
theorem Kept.trans {b c : Addr} {H1 H2 H3 : Hp} (h : Kept b c H1 H2) (k : Kept b c H2 H3) : Kept b c H1 H3 := fun x o e nb nc => k x o (h x o e nb nc) nb nc
theorem Kept.updB {b c : Addr} {H H' : Hp} {o : HO} (h : Kept b c H H') : Kept b c H (upd H' b o) := fun x u e nb nc => by
  rw [upd_ne nb]
  exact h x u e nb nc
theorem Kept.updC {b c : Addr} {H H' : Hp} {o : HO} (h : Kept b c H H') : Kept b c H (upd H' c o) := fun x u e nb nc => by
  rw [upd_ne nc]
  exact h x u e nb nc
theorem Kept.new {b c : Addr} {H H' : Hp} {o : HO} {p : Addr} (h : Kept b c H H') (hp : H p = none) : Kept b c H (upd H' p o) := fun x u e nb nc => by
  rw [upd_ne (ne_of_none e hp)]
  exact h x u e nb nc
theorem Bag.updB {H : Hp} {b c : Addr} {n m k : Int} (B : Bag H b c) : Bag (upd H b (.lst (bagL c n m k))) b c := ⟨⟨n, m, k, upd_same⟩, by
  obtain ⟨ns, h⟩ := B.cells
  exact ⟨ns, by rw [upd_ne (Ne.symm B.ne)]; exact h⟩⟩
theorem Bag.new {H : Hp} {b c p : Addr} {o : HO} (B : Bag H b c) (hp : H p = none) : Bag (upd H p o) b c := by
  obtain ⟨n, m, k, h1⟩ := B.top
  obtain ⟨ns, h2⟩ := B.cells
  exact ⟨⟨n, m, k, by rw [upd_ne (ne_of_none h1 hp)]; exact h1⟩, ⟨ns, by rw [upd_ne (ne_of_none h2 hp)]; exact h2⟩⟩
theorem seq0 (n : Nat) : seqIndex? 0 (n + 1) = some 0 := (ixN_seq (n := n + 1) (i := 0) (j := 0) (by unfold ixN; rw [if_pos (by decide), if_pos (by omega)]; rfl)).1
section
variable {P : Program} {w : World} {K : PySem.W.Frag} {mg : Str → Option Value} {base : Heap}
def spDraw : Sp := fun vs H Q _ => ∃ (b c : Addr) (lim : Int), vs = [.ref b, .int lim] ∧ Bag H b c ∧ 0 < lim ∧ lim.natAbs < 2 ^ 200 ∧ ∀ (r : Int) (H' : Hp), 0 ≤ r → r < lim → Bag H' b c → Kept b c H H' → Q (.int r) H'
theorem ok_draw {f : Addr} {fd : FuncData} (F : FnP K "_law_draw" "_law_draw" s_l_draw f fd) (ml : mg "len" = none) (mi : mg "int" = none) : FnOk P w K mg base CX0 1 f fd ["_law_bag_here", "_law_limit"] spDraw := by
  have nd := sc_l_draw.nd
  refine F.ok sc_l_draw (fun vs H Q E h => ?_) (fun cdv A outer s H vs Q E hr h => ?_)
  · obtain ⟨b, c, lim, rfl, _⟩ := h
    rfl
  · obtain ⟨b, c, lim, rfl, B, hl, hw, q⟩ := h
    refine ⟨_, PSs.nox (C8.pss_cut (ps_if (PW.pt (pw_and (pt_cmpR op_eq (pe_ix ix_list (pv 0) pe_int (fun _ _ => rfl)) pe_int (nomark _)) (pw_and1 (pt_cmpR op_gt (pe_callB call_len_seq (by rfl) ml PySem.boot_len (pa_cons (pe_ix ix_list (pv 0) pe_int (fun _ _ => rfl)) pa_nil)) pe_int (nomark _)))))
        (pss_cons (ps_set (i := 2) nd rfl (.inl rfl) (pe_bm PySem.F.plainAttrs_list PySem.F.slot_list_pop PySem.F.type_list_pop mt_popAt (pe_ix ix_list (pv 0) pe_int (fun _ _ => rfl)) (pa_cons pe_int pa_nil)))
        (pss_cons (ps_set (i := 3) nd rfl (.inl rfl) (pe_op op_mul pe_int (pv 2)))
        (C8.pss_cut (ps_if (pt_cmpR op_lt (pv 2) pe_int (nomark _)) (pss_one (ps_set (i := 3) nd rfl (.inl rfl) (pe_op op_sub (pe_op op_mul (pe_un un_neg pe_int) (pv 2)) pe_int))) pss_nil)
        (C8.pss_cut (ps_if (pt_cmpR op_ge (pv 3) (pe_op op_pow pe_int pe_int) (nomark _)) (pss_one (ps_asg (pv 3) (pg_sub (pv 0) pe_int set_list))) pss_nil)
        (pss_one (ps_asg (pe_op op_mod (pe_callTy call_int1 (by rfl) mi (by decide +kernel) (pa_cons (pe_op op_add (pe_op op_add (pe_op op_mul (pe_ix ix_list (pv 0) pe_int (fun _ _ => rfl)) pe_int) (pv 3)) pe_int) pa_nil)) pe_int) (pg_sub (pv 0) pe_int set_list)))))))
        pss_nil)
      (pss_cons (ps_if (pt_cmpR op_gt (pe_ix ix_list (pv 0) pe_int (fun _ _ => rfl)) pe_int (nomark _))
        (pss_cons (ps_set (i := 4) nd rfl (.inl rfl) (pe_op op_mod (pe_callTy call_int1 (by rfl) mi (by decide +kernel) (pa_cons (pe_ix ix_list (pv 0) pe_int (fun _ _ => rfl)) pa_nil)) (pv 1)))
        (pss_cons (ps_asg (pe_op op_fdivW (pe_ix ix_list (pv 0) pe_int (fun _ _ => rfl)) (pv 1)) (pg_sub (pv 0) pe_int set_list))
        (pss_one (ps_ret (pv 4))))) pss_nil)
      (pss_cons (ps_asg (pe_op op_add (pe_ix ix_list (pv 0) pe_int (fun _ _ => rfl)) pe_int) (pg_sub (pv 0) pe_int set_list))
      (pss_cons (ps_set (i := 5) nd rfl (.inl rfl) (pe_op op_mod (pe_callTy call_int1 (by rfl) mi (by decide +kernel) (pa_cons (pe_op op_mul (pe_op op_add (pe_op op_add (pe_ix ix_list (pv 0) pe_int (fun _ _ => rfl)) (pe_op op_mul pe_int (pe_ix ix_list (pv 0) pe_int (fun _ _ => rfl)))) pe_int) pe_int) pa_nil)) pe_int))
      (pss_cons (ps_set (i := 5) nd rfl (.inl rfl) (pe_op op_mod (pe_callTy call_int1 (by rfl) mi (by decide +kernel) (pa_cons (pe_op op_mul (pv 5) (pe_op op_add (pe_op op_fdiv (pv 5) pe_int) pe_int)) pa_nil)) pe_int))
      (pss_cons (ps_set (i := 5) nd rfl (.inl rfl) (pe_op op_mod (pe_callTy call_int1 (by rfl) mi (by decide +kernel) (pa_cons (pe_op op_mul (pv 5) (pe_op op_add (pe_op op_fdiv (pv 5) pe_int) pe_int)) pa_nil)) pe_int))
      (pss_one (ps_ret (pe_op op_mod (pe_callTy call_int1 (by rfl) mi (by decide +kernel) (pa_cons (pe_op op_fdiv (pv 5) pe_int) pa_nil)) (pv 1)))))))))), ?_⟩
    have at0 : ∀ (n m k : Int), atI (bagL c n m k) 0 = some (.ref c) := fun _ _ _ => rfl
    have at1 : ∀ (n m k : Int), atI (bagL c n m k) 1 = some (.int n) := fun _ _ _ => rfl
    have at2 : ∀ (n m k : Int), atI (bagL c n m k) 2 = some (.int m) := fun _ _ _ => rfl
    have at3 : ∀ (n m k : Int), atI (bagL c n m k) 3 = some (.int k) := fun _ _ _ => rfl
    refine ⟨fun σ' H' => ∃ x2 x3 x4 x5, σ' = [some (.ref b), some (.int lim), x2, x3, x4, x5] ∧ Bag H' b c ∧ Kept b c H H', ?_, ?_⟩
    · obtain ⟨n, m, k, hb⟩ := B.top
      obtain ⟨ns, hc⟩ := B.cells
      have nbc := B.ne
      have skip : ∃ x2 x3 x4 x5 : Option V, start ["_law_bag_here", "_law_limit", "_law_cell", "_law_number", "_law_drawn", "_law_one"] [V.ref b, V.int lim] = [some (.ref b), some (.int lim), x2, x3, x4, x5] ∧ Bag H b c ∧ Kept b c H H := ⟨none, none, none, none, rfl, B, Kept.refl⟩
      refine ⟨.ref b, rfl, b, _, 1, _, rfl, rfl, SqL.of hb, at1 n m k, rfl, _, rfl, ite2 (fun e1 => ?_) fun e1 => iteF skip⟩
      refine ⟨.ref b, rfl, b, _, 0, _, rfl, rfl, SqL.of hb, at0 n m k, c, _, rfl, .inl (SqL.of hc), _, _, rfl, rfl, _, rfl, ite2 (fun e2 => ?_) fun e2 => skip⟩
      obtain ⟨x, r, rfl⟩ : ∃ x r, ns = x :: r := by
        cases ns with
        | nil => exact absurd (of_decide_eq_true e2) (by simp)
        | cons x r => exact ⟨x, r, rfl⟩
      -- the first cell is taken
      refine ⟨.ref b, rfl, b, _, 0, _, rfl, rfl, SqL.of hb, at0 n m k, .inl ⟨rfl, _, SqL.of hc⟩, c, _, 0, 0, .int x, rfl, rfl, hc, by decide, by decide, seq0 _, rfl, ?_⟩
      have el : ((x :: r).map V.int).eraseIdx 0 = r.map V.int := rfl
      rw [el]
      generalize hH1 : upd H c (.lst (r.map V.int)) = H1
      have B1 : Bag H1 b c := by
        rw [← hH1]
        exact ⟨⟨n, m, k, by rw [upd_ne nbc]; exact hb⟩, ⟨r, upd_same⟩⟩
      have K1 : Kept b c H H1 := by
        rw [← hH1]
        exact Kept.refl.updC
      -- number = 2 * cell
      refine ⟨_, rfl, _, _, rfl, rfl, .inl (by decide), ?_⟩
      refine ⟨fun σ' H' => ∃ y : Int, σ' = [some (.ref b), some (.int lim), some (.int x), some (.int y), none, none] ∧ H' = H1, ?_, ?_⟩
      · refine ⟨_, rfl, _, _, rfl, rfl, _, rfl, ite2 (fun e3 => ?_) fun e3 => ⟨_, rfl, rfl⟩⟩
        refine ⟨_, rfl, _, rfl, _, _, rfl, rfl, .inl (by decide), _, _, rfl, rfl, ?_⟩
        exact ⟨_, rfl, rfl⟩
      · rintro σ' H' ⟨y, rfl, rfl⟩
        obtain ⟨n1, m1, k1, hb1⟩ := B1.top
        refine ⟨fun σ' H' => σ' = [some (.ref b), some (.int lim), some (.int x), some (.int y), none, none] ∧ Bag H' b c ∧ Kept b c H H', ?_, ?_⟩
        · refine ⟨_, rfl, _, _, rfl, rfl, ⟨by decide, by decide, by decide⟩, _, _, rfl, rfl, _, rfl, ite2 (fun e4 => ?_) fun e4 => ⟨rfl, B1, K1⟩⟩
          exact ⟨_, rfl, .ref b, rfl, b, _, 1, 1, rfl, rfl, hb1, rfl, rfl, B1.updB (n := y) (m := m1) (k := k1), K1.updB⟩
        · rintro σ' H' ⟨rfl, B2, K2⟩
          obtain ⟨n2, m2, k2, hb2⟩ := B2.top
          refine ⟨.ref b, rfl, b, _, 2, _, rfl, rfl, SqL.of hb2, at2 n2 m2 k2, _, _, rfl, rfl, .inr (by decide), _, rfl, _, _, rfl, rfl, _, _, rfl, rfl, .inl ⟨_, rfl, ?_⟩⟩
          refine ⟨_, _, rfl, rfl, (by show (0 : Int) < 2147483647; decide), .ref b, rfl, b, _, 2, 2, rfl, rfl, hb2, rfl, ?_⟩
          exact ⟨_, _, _, _, rfl, B2.updB, K2.updB⟩
    · rintro σ' H1 ⟨x2, x3, x4, x5, rfl, B1, K1⟩
      obtain ⟨n, m, k, hb⟩ := B1.top
      refine ⟨.ref b, rfl, b, _, 1, _, rfl, rfl, SqL.of hb, at1 n m k, _, _, rfl, rfl, _, rfl, ite2 (fun e1 => ?_) fun e1 => ?_⟩
      · refine ⟨.ref b, rfl, b, _, 1, _, rfl, rfl, SqL.of hb, at1 n m k, .inl ⟨_, rfl, ?_⟩⟩
        refine ⟨_, rfl, _, _, rfl, rfl, hl, ?_⟩
        refine ⟨.ref b, rfl, b, _, 1, _, rfl, rfl, SqL.of hb, at1 n m k, _, rfl, _, _, rfl, rfl, wide_div hl hw (by decide) (by decide), ?_⟩
        refine ⟨.ref b, rfl, b, _, 1, 1, rfl, rfl, hb, rfl, _, rfl, ?_⟩
        exact q _ _ (Int.emod_nonneg _ (by omega)) (Int.emod_lt_of_pos _ hl) B1.updB K1.updB
      · refine ⟨.ref b, rfl, b, _, 3, _, rfl, rfl, SqL.of hb, at3 n m k, _, _, rfl, rfl, .ref b, rfl, b, _, 3, 3, rfl, rfl, hb, rfl, ?_⟩
        have B2 : Bag (upd H1 b (.lst (bagL c n m (k + 1)))) b c := B1.updB
        have K2 : Kept b c H (upd H1 b (.lst (bagL c n m (k + 1)))) := K1.updB
        have hb2 : (upd H1 b (.lst (bagL c n m (k + 1)))) b = some (.lst (bagL c n m (k + 1))) := upd_same
        show _
        refine ⟨.ref b, rfl, b, _, 2, _, rfl, rfl, SqL.of hb2, at2 n m (k + 1), .ref b, rfl, b, _, 3, _, rfl, rfl, SqL.of hb2, at3 n m (k + 1), _, _, rfl, rfl, .inl (by decide), _, _, rfl, rfl, _, _, rfl, rfl, _, _, rfl, rfl, .inr (by decide), .inl ⟨_, rfl, ?_⟩⟩
        refine ⟨_, _, rfl, rfl, (by show (0 : Int) < 2147483647; decide), ?_⟩
        have z1 := Int.emod_nonneg ((m + 7919 * (k + 1) + 1) * 48271) (show (2147483647 : Int) ≠ 0 by decide)
        have z2 := Int.emod_lt_of_pos ((m + 7919 * (k + 1) + 1) * 48271) (show (0 : Int) < 2147483647 by decide)
        generalize ((m + 7919 * (k + 1) + 1) * 48271) % 2147483647 = o1 at z1 z2 ⊢
        refine ⟨_, rfl, _, rfl, _, _, rfl, rfl, ⟨by decide, by decide⟩, _, _, rfl, rfl, _, _, rfl, rfl, .inl ⟨by omega, by omega⟩, .inl ⟨_, rfl, ?_⟩⟩
        refine ⟨_, _, rfl, rfl, (by show (0 : Int) < 2147483647; decide), ?_⟩
        have y1 := Int.emod_nonneg (o1 * (o1 / 1009 + 69621)) (show (2147483647 : Int) ≠ 0 by decide)
        have y2 := Int.emod_lt_of_pos (o1 * (o1 / 1009 + 69621)) (show (0 : Int) < 2147483647 by decide)
        generalize (o1 * (o1 / 1009 + 69621)) % 2147483647 = o2 at y1 y2 ⊢
        refine ⟨_, rfl, _, rfl, _, _, rfl, rfl, ⟨by decide, by decide⟩, _, _, rfl, rfl, _, _, rfl, rfl, .inl ⟨by omega, by omega⟩, .inl ⟨_, rfl, ?_⟩⟩
        refine ⟨_, _, rfl, rfl, (by show (0 : Int) < 2147483399; decide), ?_⟩
        refine ⟨_, rfl, _, _, rfl, rfl, ⟨by decide, by decide⟩, .inl ⟨_, rfl, ?_⟩⟩
        refine ⟨_, rfl, _, _, rfl, rfl, hl, ?_⟩
        exact q _ _ (Int.emod_nonneg _ (by omega)) (Int.emod_lt_of_pos _ hl) B2 K2
end
end K02

/-! Comprehensions over the signs of a text. -/
namespace Tl
open PySem PySem.Spec PyProof.Rows L2
theorem upd_over {H : Hp} {p : Addr} {o u : HO} : upd (upd H p o) p u = upd H p u := funext fun x => by
  by_cases e : x = p
  · subst e
    rw [upd_same, upd_same]
  · rw [upd_ne e, upd_ne e, upd_ne e]
/-- [f c for c in text if p c]: i the slot of c, f and p told by the sign's code, the heap as it was -/
theorem lc_tx {te te' : TE} {tt : TT} {σ : L2.St} {H : Hp} {Q : VK} {l : List Nat} {p : Nat → Bool} {f : Nat → V} {i : Nat} (hl : l.length ≤ 1000000)
    (hte : ∀ Q' : VK, Q' (.str (tx l)) H → te σ H Q')
    (hw : ∀ x : V, wipe ((wipe σ [i]).set i (some x)) [i] = wipe σ [i])
    (ht : ∀ (n : Nat) (H2 : Hp) (Qb : Bool → Hp → Prop), n ∈ l → Qb (p n) H2 → tt ((wipe σ [i]).set i (some (.str (sg n)))) H2 Qb)
    (he : ∀ (n : Nat) (H2 : Hp) (Q' : VK), n ∈ l → Q' (f n) H2 → te' ((wipe σ [i]).set i (some (.str (sg n)))) H2 Q')
    (hq : ∀ D, H D = none → Q (.ref D) (upd H D (.lst ((l.filter p).map f)))) : tLc (iStr te) (gName i) tt te' [i] σ H Q := by
  refine hte _ ⟨tx l, rfl, fun D hD => ?_⟩
  refine lc_it (walk_str (z := tx l)) (fun j H' => H' = upd H D (.lst (((l.take j).filter p).map f))) rfl (fun _ _ _ _ => trivial) ?_ ?_
  · rintro j x H1 H' hj e1 ⟨e2, c, hc, rfl⟩
    subst e2
    subst e1
    have hc' : l[j]? = some c := by
      have e : (tx l).cps[j]? = l[j]? := by simp [tx]
      rw [← e]
      exact hc
    have hm : c ∈ l := List.mem_of_getElem? hc'
    have hlen : ((l.take j).filter p).length ≤ 1000000 := Nat.le_trans (List.length_filter_le _ _) (Nat.le_trans (by rw [List.length_take]; exact Nat.min_le_right _ _) hl)
    refine ⟨hw _, ht c _ _ hm ?_⟩
    cases hp : p c with
    | true =>
      refine iteT (he c _ _ hm ⟨_, upd_same, ?_, ?_⟩)
      · rw [List.length_map]
        exact Nat.lt_of_le_of_lt hlen (by rw [sizeLine_eq]; decide)
      · show upd (upd H D _) D _ = _
        rw [upd_over, List.take_add_one, hc', List.filter_append, List.map_append]
        simp [hp]
    | false =>
      refine iteF ?_
      show upd H D _ = upd H D _
      rw [List.take_add_one, hc', List.filter_append]
      simp [hp]
  · rintro H' rfl
    have e : l.take (tx l).cps.size = l := List.take_of_length_le (by simp [tx])
    rw [e]
    exact hq D hD
theorem cb_one {r : List V → Hp → VK → Prop} {ta : TE} {σ : L2.St} {H : Hp} {Q : VK} (h : ta σ H fun x H1 => r [x] H1 Q) : tCB r (tCons ta tNil) σ H Q := h
/-- what sep.join(xs) asks -/
abbrev rJoin (K : PySem.W.Frag) : V → List V → Hp → VK → Prop := fun x xs H Q => ∃ a p, ∃ ys : List Str, x = .str a ∧ xs = [.ref p] ∧ (SqL K H p (ys.map V.str) ∨ SqT K H p (ys.map V.str)) ∧ (ys.map (·.length)).sum + ys.length * a.length ≤ 16777216 ∧ Q (.str (Txt.join a ys)) H
theorem strs_sg (l : List Nat) : (l.map fun n => V.str (sg n)) = (l.map sg).map V.str := by
  rw [List.map_map]
  rfl
theorem join_rd {K : PySem.W.Frag} {p : Addr} {l : List Nat} {H : Hp} {Q : VK} (h : H p = some (.lst (l.map fun n => V.str (sg n)))) (hl : l.length ≤ 1000000) (q : Q (.str (tx l)) H) : rJoin K (.str (tx [])) [.ref p] H Q := by
  refine ⟨tx [], p, l.map sg, rfl, rfl, .inl (SqL.of (by rw [← strs_sg]; exact h)), ?_, ?_⟩
  · rw [sum_sg, len_tx, List.length_map]
    show l.length + l.length * 0 ≤ 16777216
    omega
  · rw [join_sg]
    exact q
/-- ''.join([c for c in text if p c]) -/
theorem join_tx {K : PySem.W.Frag} {z : Str} {te : TE} {tt : TT} {σ : L2.St} {H : Hp} {Q : VK} {l : List Nat} {p : Nat → Bool} {i : Nat} (hz : z = tx []) (hl : l.length ≤ 1000000)
    (hte : ∀ Q' : VK, Q' (.str (tx l)) H → te σ H Q')
    (hw : ∀ x : V, wipe ((wipe σ [i]).set i (some x)) [i] = wipe σ [i])
    (hv : ∀ x : V, ((wipe σ [i]).set i (some x))[i]? = some (some x))
    (ht : ∀ (n : Nat) (H2 : Hp) (Qb : Bool → Hp → Prop), n ∈ l → Qb (p n) H2 → tt ((wipe σ [i]).set i (some (.str (sg n)))) H2 Qb)
    (hq : ∀ H', Same H H' → Q (.str (tx (l.filter p))) H') : tM1 (rJoin K) (tC (.str z)) (tLc (iStr te) (gName i) tt (tVar i) [i]) σ H Q := by
  subst hz
  refine ⟨⟨_, rfl⟩, ?_⟩
  refine lc_tx (p := p) (f := fun n => .str (sg n)) hl hte hw ht (fun n H2 Q' _ q => ⟨_, hv _, q⟩) fun D hD => ?_
  refine join_rd upd_same (Nat.le_trans (List.length_filter_le _ _) hl) (hq _ fun b o e => ?_)
  rw [upd_ne (ne_of_none e hD)]
  exact e
/-- the same, the text made by a call that leaves all as it stood -/
theorem join_txG {K : PySem.W.Frag} {z : Str} {te : TE} {tt : TT} {σ : L2.St} {H : Hp} {Q : VK} {l : List Nat} {p : Nat → Bool} {i : Nat} (hz : z = tx []) (hl : l.length ≤ 1000000)
    (hte : ∀ Q' : VK, (∀ H1, Same H H1 → Q' (.str (tx l)) H1) → te σ H Q')
    (hw : ∀ x : V, wipe ((wipe σ [i]).set i (some x)) [i] = wipe σ [i])
    (hv : ∀ x : V, ((wipe σ [i]).set i (some x))[i]? = some (some x))
    (ht : ∀ (n : Nat) (H2 : Hp) (Qb : Bool → Hp → Prop), n ∈ l → Qb (p n) H2 → tt ((wipe σ [i]).set i (some (.str (sg n)))) H2 Qb)
    (hq : ∀ H', Same H H' → Q (.str (tx (l.filter p))) H') : tM1 (rJoin K) (tC (.str z)) (tLc (iStr te) (gName i) tt (tVar i) [i]) σ H Q := by
  subst hz
  refine ⟨⟨_, rfl⟩, hte _ fun H1 s1 => ?_⟩
  refine lc_tx (Q := fun y H2 => rJoin K (V.str (tx [])) [y] H2 Q) (te := tC (.str (tx l))) (te' := tVar i) (H := H1) (p := p) (f := fun n => .str (sg n)) hl (fun _ q => q) hw ht (fun n H2 Q' _ q => ⟨_, hv _, q⟩) fun D hD => ?_
  refine join_rd upd_same (Nat.le_trans (List.length_filter_le _ _) hl) (hq _ fun b o e => ?_)
  rw [upd_ne (ne_of_none (s1 _ _ e) hD)]
  exact s1 _ _ e
end Tl

namespace K02
open PySem PySem.Spec PyProof.Rows L2 Tl
theorem cut_ints (ns : List Int) (lo hi : Option Int) : ∃ ms : List Int, cutV (ns.map V.int) lo hi = ms.map V.int := by
  refine ⟨(ns.drop (HT.sIx (ns.map V.int).length 0 lo)).take (HT.sIx (ns.map V.int).length (ns.map V.int).length hi - HT.sIx (ns.map V.int).length 0 lo), ?_⟩
  unfold cutV
  rw [← List.map_drop, ← List.map_take]
theorem same_new {H : Hp} {p : Addr} {o : HO} (h : H p = none) : Same H (upd H p o) := fun b x e => by
  rw [upd_ne (ne_of_none e h)]
  exact e
theorem erase_map {α β : Type} (f : α → β) : ∀ (l : List α) (i : Nat), (l.map f).eraseIdx i = (l.eraseIdx i).map f
  | [], _ => rfl
  | _ :: _, 0 => rfl
  | x :: l, i + 1 => congrArg (f x :: ·) (erase_map f l i)
theorem erase_cons {α : Type} : ∀ (l : List α) (i : Nat) (h : i < l.length), List.Perm (l[i] :: l.eraseIdx i) l
  | [], i, h => absurd h (Nat.not_lt_zero i)
  | _ :: _, 0, _ => List.Perm.refl _
  | x :: l, i + 1, h => (List.Perm.swap x _ _).trans ((erase_cons l i (Nat.lt_of_succ_lt_succ h)).cons x)
/-- all the signs, by their codes -/
def alpha : List Nat := (List.range 95).filterMap fun i => if i = 5 then none else some (i + 32)
theorem alpha_len : alpha.length = 94 := by decide +kernel
theorem alpha_nodup : alpha.Nodup := by decide +kernel
theorem line_small {n : Nat} (h : n ≤ 16777216) : n ≤ sizeLine := by
  rw [sizeLine_eq]
  exact h
section
variable {P : Program} {w : World} {K : PySem.W.Frag} {mg : Str → Option Value} {base : Heap}
def spBag (K : PySem.W.Frag) : Sp := fun vs H Q _ => ∃ (a : Addr) (ns : List Int), vs = [.ref a] ∧ SqL K H a (ns.map V.int) ∧ ns.length ≤ 63 ∧ ∀ (b c : Addr) (H' : Hp), H b = none → H c = none → Bag H' b c → Same H H' → Q (.ref b) H'
theorem ok_bag {f : Addr} {fd : FuncData} (F : FnP K "_law_bag" "_law_bag" s_l_bag f fd) (ml : mg "list" = none) : FnOk P w K mg base CX0 1 f fd ["_law_script"] (spBag K) := by
  refine F.ok sc_l_bag (fun vs H Q E h => ?_) (fun cdv A outer s H vs Q E hr h => ?_)
  · obtain ⟨a, ns, rfl, _⟩ := h
    rfl
  · obtain ⟨a, ns, rfl, hS, hlen, q⟩ := h
    refine ⟨_, PSs.nox (pss_one (ps_ret (pe_lst (pa_cons (pe_callTy call_list_of (by rfl) ml (by decide +kernel) (pa_cons (pe_slice sl_list (pv 0) po_none (po_some pe_int)) pa_nil)) (pa_cons pe_int (pa_cons pe_int (pa_cons pe_int pa_nil))))))), ?_⟩
    refine ⟨.ref a, rfl, 63, rfl, a, _, rfl, hS, fun p hp => ?_⟩
    obtain ⟨ms, em⟩ := cut_ints ns none (some 63)
    rw [em]
    refine ⟨p, _, rfl, .inl (SqL.of upd_same), fun c hc => ?_⟩
    refine ⟨by show 4 ≤ sizeLine; exact line_small (by decide), fun b hb => ?_⟩
    have s1 : Same H (upd H p (.lst (ms.map V.int))) := same_new hp
    have s2 := s1.trans (same_new (o := .lst (ms.map V.int)) hc)
    have s3 := s2.trans (same_new (o := .lst [V.ref c, .int 0, .int 0, .int 0]) hb)
    have nbc : c ≠ b := ne_of_none upd_same hb
    refine q b c _ (s2.free hb) (s1.free hc) ⟨⟨0, 0, 0, upd_same⟩, ⟨ms, ?_⟩⟩ s3
    rw [upd_ne nbc, upd_same]
def spAlpha : Sp := fun vs H Q _ => vs = [] ∧ Q (.str (tx alpha)) H
theorem ok_alpha {f : Addr} {fd : FuncData} (F : FnP K "_law_alphabet" "_law_alphabet" s_l_alphabet f fd) : FnOk P w K mg base CX0 1 f fd [] spAlpha := by
  refine F.ok sc_l_alphabet (fun vs H Q E h => ?_) (fun cdv A outer s H vs Q E hr h => ?_)
  · obtain ⟨rfl, _⟩ := h
    rfl
  · obtain ⟨rfl, q⟩ := h
    refine ⟨_, PSs.nox (pss_cons (ps_set (i := 0) sc_l_alphabet.nd rfl (.inl rfl) pe_str) (pss_one (ps_ret (pe_op op_add_str (pv 0) pe_str)))), ?_⟩
    refine ⟨_, rfl, _, _, rfl, rfl, line_small (by decide +kernel), ?_⟩
    have e : ∀ z : Str, z = tx alpha → Q (.str z) H := fun z hz => by
      rw [hz]
      exact q
    exact e _ (by decide +kernel)
def lettersV (ls : List Nat) : List V := ls.map fun n => V.str (sg n)
def spLetters : Sp := fun vs H Q _ => ∃ (b c : Addr) (many : Int), vs = [.ref b, .int many] ∧ Bag H b c ∧ 0 ≤ many ∧ many ≤ 94 ∧
  ∀ (p : Addr) (ls : List Nat) (H' : Hp), (ls.length : Int) = many → ls.Nodup → (∀ x ∈ ls, x ∈ alpha) → H p = none → H' p = some (.lst (lettersV ls)) → Bag H' b c → Kept b c H H' → Q (.ref p) H'
theorem ok_letters {f fA fD : Addr} {fd fdA fdD : FuncData} (F : FnP K "_law_letters" "_law_letters" s_l_letters f fd) (ml : mg "list" = none) (mn : mg "len" = none) (mr : mg "range" = none)
    (GA : FnOk P w K mg base CX0 1 fA fdA [] spAlpha) (gA : mg "_law_alphabet" = some (.ref fA)) (kA : PySem.W.keepIn K (.ref fA) = true) (bA : Binds K fdA [] [])
    (GD : FnOk P w K mg base CX0 1 fD fdD ["_law_bag_here", "_law_limit"] spDraw) (gD : mg "_law_draw" = some (.ref fD)) (kD : PySem.W.keepIn K (.ref fD) = true) (bD : Binds K fdD ["_law_bag_here", "_law_limit"] []) :
    FnOk P w K mg base CX0 2 f fd ["_law_bag_here", "_law_many"] spLetters := by
  have nd := sc_l_letters.nd
  refine F.ok sc_l_letters (fun vs H Q E h => ?_) (fun cdv A outer s H vs Q E hr h => ?_)
  · obtain ⟨b, c, many, rfl, _⟩ := h
    rfl
  · obtain ⟨b, c, many, rfl, B, h0, h94, q⟩ := h
    refine ⟨_, PSs.nox (pss_cons (ps_set (i := 2) nd rfl (.inl rfl) (pe_callTy (call_listTx rfl) (by rfl) ml (by decide +kernel) (pa_cons (pe_call0 GA hr (by rfl) gA kA bA .nil pass0) pa_nil)))
      (pss_cons (ps_set (i := 3) nd rfl (.inl rfl) (pe_lst pa_nil))
      (pss_cons (ps_for PassesOwn.never rfl (pi_range1 rfl mr (pa_cons (pv 1) pa_nil)) (pg_name (i := 4) nd rfl (.inl rfl))
        (pss_one (ps_expr (pe_bm PySem.F.plainAttrs_list PySem.F.slot_list_append PySem.F.type_list_append mt_append (pv 3)
          (pa_cons (pe_bm PySem.F.plainAttrs_list PySem.F.slot_list_pop PySem.F.type_list_pop mt_popAt (pv 2)
            (pa_cons (pe_call GD hr (by rfl) gD kD bD .nil pass0 (pa_cons (pv 0) (pa_cons (pe_callB call_len_seq (by rfl) mn PySem.boot_len (pa_cons (pv 2) pa_nil)) pa_nil))) pa_nil)) pa_nil)))))
      (pss_one (ps_ret (pv 3)))))), ?_⟩
    -- rest, found
    refine ⟨rfl, alpha, rfl, line_small (by rw [alpha_len]; decide), fun r hr0 => ?_⟩
    refine ⟨Nat.zero_le _, fun p hp => ?_⟩
    have s1 : Same H (upd H r (.lst (alpha.map fun n => V.str (sg n)))) := same_new hr0
    have hp0 : H p = none := s1.free hp
    have nrp : r ≠ p := ne_of_none upd_same hp
    refine ⟨_, rfl, many, rfl, by omega, by omega, for_range (n := many.toNat) (fun i σ H' => ∃ (x4 : Option V) (ls rs : List Nat), σ = [some (.ref b), some (.int many), some (.ref r), some (.ref p), x4] ∧ H' r = some (.lst (lettersV rs)) ∧ H' p = some (.lst (lettersV ls)) ∧
      (ls ++ rs).Perm alpha ∧ ls.length = i ∧ Bag H' b c ∧ Kept b c H H') ?_ ?_ ?_⟩
    · refine ⟨none, [], alpha, rfl, ?_, upd_same, List.Perm.refl _, rfl, ((B.new hr0).new hp), (Kept.refl.new hr0).new hp0⟩
      rw [upd_ne nrp, upd_same]
      rfl
    · rintro i σ H1 hi ⟨x4, ls, rs, rfl, h1, h2, pm, el, B1, K1⟩
      have elen : ls.length + rs.length = 94 := by
        rw [← List.length_append, pm.length_eq, alpha_len]
      have hrl : 0 < rs.length := by omega
      refine ⟨.ref p, rfl, .inl ⟨rfl, _, SqL.of h2⟩, .ref r, rfl, .inl ⟨rfl, _, SqL.of h1⟩, .ref b, rfl, .ref r, rfl, r, _, rfl, .inl (SqL.of h1), ?_⟩
      refine ⟨b, c, _, rfl, B1, ?_, ?_, fun d H2 d0 d1 B2 K2 => ?_⟩
      · rw [show (lettersV rs).length = rs.length from List.length_map _]
        omega
      · rw [show (lettersV rs).length = rs.length from List.length_map _]
        show rs.length < 2 ^ 200
        exact Nat.lt_of_le_of_lt (show rs.length ≤ 94 by omega) (by decide)
      · rw [show (lettersV rs).length = rs.length from List.length_map _] at d1
        obtain ⟨n1, m1, k1, hb1⟩ := B.top
        obtain ⟨ns1, hc1⟩ := B.cells
        have nrb : r ≠ b := Ne.symm (ne_of_none hb1 hr0)
        have nrc : r ≠ c := Ne.symm (ne_of_none hc1 hr0)
        have npb : p ≠ b := Ne.symm (ne_of_none hb1 hp0)
        have npc : p ≠ c := Ne.symm (ne_of_none hc1 hp0)
        have g1 := K2 _ _ h1 nrb nrc
        have g2 := K2 _ _ h2 npb npc
        have hj : d.toNat < rs.length := by omega
        have hx : rs[d.toNat]? = some rs[d.toNat] := List.getElem?_eq_getElem hj
        have hgx : (lettersV rs)[d.toNat]? = some (.str (sg rs[d.toNat])) := by
          unfold lettersV
          rw [List.getElem?_map, hx]
          rfl
        have hsq : seqIndex? d (lettersV rs).length = some d.toNat := by
          refine (ixN_seq (n := (lettersV rs).length) (i := d) (j := d.toNat) ?_).1
          unfold ixN lettersV
          rw [List.length_map, if_pos d0, if_pos (by omega)]
        refine ⟨r, _, d, d.toNat, _, rfl, rfl, g1, by omega, by omega, hsq, hgx, ?_⟩
        have ee : (lettersV rs).eraseIdx d.toNat = lettersV (rs.eraseIdx d.toNat) := by
          unfold lettersV
          exact erase_map _ _ _
        rw [ee]
        refine ⟨p, _, _, rfl, rfl, (by rw [upd_ne (Ne.symm nrp)]; exact g2), ?_, ?_⟩
        · rw [show (lettersV ls).length = ls.length from List.length_map _]
          exact small1000 (by omega)
        · have ea : lettersV ls ++ [V.str (sg rs[d.toNat])] = lettersV (ls ++ [rs[d.toNat]]) := by
            unfold lettersV
            rw [List.map_append]
            rfl
          rw [ea]
          refine ⟨_, ls ++ [rs[d.toNat]], rs.eraseIdx d.toNat, rfl, by rw [upd_ne nrp, upd_same], upd_same, ?_, ?_, ?_, ?_⟩
          · rw [List.append_assoc]
            refine List.Perm.trans (List.Perm.append_left ls ?_) pm
            exact erase_cons rs d.toNat hj
          · rw [List.length_append, el]
            rfl
          · obtain ⟨n2, m2, k2, hb2⟩ := B2.top
            obtain ⟨ns2, hc2⟩ := B2.cells
            exact ⟨⟨n2, m2, k2, by rw [upd_ne (Ne.symm npb), upd_ne (Ne.symm nrb)]; exact hb2⟩, ⟨ns2, by rw [upd_ne (Ne.symm npc), upd_ne (Ne.symm nrc)]; exact hc2⟩⟩
          · exact ((K1.trans K2).new hr0).new hp0
    · rintro σ H1 ⟨x4, ls, rs, rfl, h1, h2, pm, el, B1, K1⟩
      refine ⟨_, rfl, q p ls H1 (by omega) ?_ (fun x hx => pm.mem_iff.mp (List.mem_append_left _ hx)) hp0 h2 B1 K1⟩
      exact (List.nodup_append.mp (pm.nodup_iff.mpr alpha_nodup)).1
end
end K02

set_option autoImplicit false
set_option maxErrors 4
namespace K02
open PySem PySem.Spec PyProof.Rows L2 Tl
/-! ### integers, rows, bounds -/
/-- not an integer, as isinstance sees it -/
def NoInt (K : PySem.W.Frag) (H : Hp) (x : V) : Prop := ∃ (t : Value) (b1 b2 : Bool), TyX K H x t ∧ PySem.W.kitOne K t (.type "int") = some b1 ∧ PySem.W.kitOne K t (.type "bool") = some b2 ∧ (b1 && !b2) = false
/-- the names that isinstance needs -/
structure Nms (mg : Str → Option Value) : Prop where
  isi : mg "isinstance" = none
  int : mg "int" = none
  bool : mg "bool" = none
  list : mg "list" = none
  tuple : mg "tuple" = none
  str : mg "str" = none
  all : mg "all" = none
  any : mg "any" = none
  sum : mg "sum" = none
  len : mg "len" = none
  enumerate : mg "enumerate" = none
  range : mg "range" = none
  max : mg "max" = none
  sorted : mg "sorted" = none
section
variable (P : Program) (w : World) (K : PySem.W.Frag) (mg : Str → Option Value) (base : Heap) (CX : CXT)
/-- a def of the top that keeps its promise and can be called by its name -/
def Can (x : Str) (ps : List Str) (k : Nat) (sp : Sp) : Prop := ∃ f fd, FnOk P w K mg base CX k f fd ps sp ∧ mg x = some (.ref f) ∧ PySem.W.keepIn K (.ref f) = true ∧ Binds K fd ps []
end
section
variable {P : Program} {w : World} {K : PySem.W.Frag} {mg : Str → Option Value} {base : Heap}
def spIsInt (K : PySem.W.Frag) : Sp := fun vs H Q _ => ∃ x, vs = [x] ∧ ((∃ n, x = .int n ∧ Q (.bl true) H) ∨ (NoInt K H x ∧ Q (.bl false) H))
theorem ok_is_integer {f : Addr} {fd : FuncData} (F : FnP K "is_integer" "is_integer" s_is_integer f fd) (N : Nms mg) : FnOk P w K mg base CX0 1 f fd ["thing"] (spIsInt K) := by
  refine F.ok sc_is_integer (fun vs H Q E h => ?_) (fun cdv A outer s H vs Q E hr h => ?_)
  · obtain ⟨x, rfl, _⟩ := h
    rfl
  · obtain ⟨x, rfl, h⟩ := h
    refine ⟨_, PSs.nox (pss_one (ps_ret (pe_and (pe_callB call_isi (by rfl) N.isi (by decide +kernel) (pa_cons (pv 0) (pa_cons (pe_bltn (v := .ty "int") (by rfl) N.int (by decide +kernel) rfl) pa_nil)))
      (pe_one (pe_not (pe_callB call_isi (by rfl) N.isi (by decide +kernel) (pa_cons (pv 0) (pa_cons (pe_bltn (v := .ty "bool") (by rfl) N.bool (by decide +kernel) rfl) pa_nil)))))))), ?_⟩
    rcases h with ⟨n, rfl, q⟩ | ⟨⟨t, b1, b2, ty, k1, k2, e⟩, q⟩
    · refine ⟨_, rfl, _, _, _, _, true, rfl, .ty "int", .base (.int _), kit_ty (by decide +kernel), true, rfl, iteT ?_⟩
      exact ⟨_, rfl, _, _, _, _, false, rfl, .ty "bool", .base (.int _), kit_ty (by decide +kernel), false, rfl, q⟩
    · cases b1 with
      | false => exact ⟨_, rfl, _, _, _, _, false, rfl, .ty "int", ty, k1, false, rfl, iteF q⟩
      | true =>
        have e2 : b2 = true := by simpa using e
        subst e2
        exact ⟨_, rfl, _, _, _, _, true, rfl, .ty "int", ty, k1, true, rfl, iteT ⟨_, rfl, _, _, _, _, true, rfl, .ty "bool", ty, k2, true, rfl, q⟩⟩
def spWithin (K : PySem.W.Frag) : Sp := fun vs H Q _ => ∃ (x : V) (lo hi : Int), vs = [x, .int lo, .int hi] ∧ ((∃ n, x = .int n ∧ Q (.bl (decide (lo ≤ n ∧ n ≤ hi))) H) ∨ (NoInt K H x ∧ Q (.bl false) H))
theorem ok_within {f : Addr} {fd : FuncData} (F : FnP K "is_integer_within" "is_integer_within" s_is_integer_within f fd) (I : Can P w K mg base CX0 "is_integer" ["thing"] 1 (spIsInt K)) : FnOk P w K mg base CX0 2 f fd ["thing", "low", "high"] (spWithin K) := by
  obtain ⟨fI, fdI, GI, gI, kI, bI⟩ := I
  refine F.ok sc_is_integer_within (fun vs H Q E h => ?_) (fun cdv A outer s H vs Q E hr h => ?_)
  · obtain ⟨x, lo, hi, rfl, _⟩ := h
    rfl
  · obtain ⟨x, lo, hi, rfl, h⟩ := h
    refine ⟨_, PSs.nox (pss_one (ps_ret (pe_and (pe_call GI hr (by rfl) gI kI bI .nil pass0 (pa_cons (pv 0) pa_nil)) (pe_one (pe_chain op_le op_le (pv 1) (pv 0) (pv 2)))))), ?_⟩
    rcases h with ⟨n, rfl, q⟩ | ⟨no, q⟩
    · refine ⟨_, rfl, _, rfl, .inl ⟨n, rfl, true, rfl, iteT ?_⟩⟩
      refine ⟨_, rfl, _, rfl, _, _, rfl, rfl, _, rfl, ?_⟩
      by_cases h1 : lo ≤ n
      · have e : decide (lo ≤ n ∧ n ≤ hi) = decide (n ≤ hi) := by simp [h1]
        rw [e] at q
        refine (if_pos (decide_eq_true h1)).mpr ?_
        exact ⟨_, rfl, _, _, rfl, rfl, q⟩
      · have e : decide (lo ≤ n ∧ n ≤ hi) = false := by simp [h1]
        rw [e] at q
        refine (if_neg (by simpa using h1)).mpr ?_
        exact q
    · exact ⟨_, rfl, _, rfl, .inr ⟨no, false, rfl, iteF q⟩⟩
def spRow (K : PySem.W.Frag) : Sp := fun vs H Q _ => ∃ (x : V) (t : Value) (b1 b2 : Bool), vs = [x] ∧ TyX K H x t ∧ PySem.W.kitOne K t (.type "list") = some b1 ∧ PySem.W.kitOne K t (.type "tuple") = some b2 ∧ ∀ H', Same H H' → Q (.bl (b1 || b2)) H'
def spPc : Sp := fun vs H Q _ => ∃ (l : Nat) (m : Option Nat), vs = [.int l, m.elim .non fun n => .int (n : Nat)] ∧ Q (.int ((m.getD (Nat.max l 1) : Nat) : Int)) H
theorem ok_place_count {f : Addr} {fd : FuncData} (F : FnP K "place_count" "place_count" s_place_count f fd) (N : Nms mg) : FnOk P w K mg base CX0 1 f fd ["least", "most"] spPc := by
  refine F.ok sc_place_count (fun vs H Q E h => ?_) (fun cdv A outer s H vs Q E hr h => ?_)
  · obtain ⟨l, m, rfl, _⟩ := h
    rfl
  · obtain ⟨l, m, rfl, q⟩ := h
    refine ⟨_, PSs.nox (pss_cons (ps_if (pt_cmpR op_isN (pv 1) pe_non (nomark _)) (pss_one (ps_ret (pe_callB (call_max2 rfl) (by rfl) N.max (by decide +kernel) (pa_cons (pv 0) (pa_cons pe_int pa_nil))))) pss_nil) (pss_one (ps_ret (pv 1)))), ?_⟩
    cases m with
    | none =>
      refine ⟨_, rfl, rfl, _, rfl, iteT ?_⟩
      refine ⟨_, rfl, (l : Int), 1, rfl, ?_⟩
      have e : (if (1 : Int) > (l : Int) then (1 : Int) else (l : Int)) = ((Nat.max l 1 : Nat) : Int) := by
        show _ = ((max l 1 : Nat) : Int)
        split <;> omega
      rw [e]
      exact q
    | some n =>
      refine ⟨_, rfl, rfl, _, rfl, iteF ?_⟩
      exact ⟨_, rfl, q⟩
end
end K02

set_option autoImplicit false
set_option maxErrors 4
/-! The bit operators of natural numbers. -/
namespace Tl
open PySem PySem.Spec PyProof.Rows L2
theorem bitOr_nat (n m : Nat) : Builtin.bitOr (n : Int) (m : Int) = ((n ||| m : Nat) : Int) := by
  have e := bitOr_nn (Int.natCast_nonneg n) (Int.natCast_nonneg m)
  rw [Int.toNat_natCast, Int.toNat_natCast] at e
  exact e
theorem bitAnd_nat (n m : Nat) : Builtin.bitAnd (n : Int) (m : Int) = ((n &&& m : Nat) : Int) := by
  unfold Builtin.bitAnd
  rw [decide_eq_true (Int.natCast_nonneg n), decide_eq_true (Int.natCast_nonneg m)]
  show (((n : Int).toNat &&& (m : Int).toNat : Nat) : Int) = _
  rw [Int.toNat_natCast, Int.toNat_natCast]
/-- n & ~1 -/
theorem bitAnd_even (n : Nat) : Builtin.bitAnd (n : Int) (-2) = ((n / 2 * 2 : Nat) : Int) := by
  unfold Builtin.bitAnd
  rw [decide_eq_true (Int.natCast_nonneg n), show decide ((0 : Int) ≤ -2) = false by decide]
  show (n : Int) - (((n : Int).toNat &&& (Builtin.bitNot (-2)).toNat : Nat) : Int) = _
  rw [Int.toNat_natCast, show (Builtin.bitNot (-2)).toNat = 1 by decide, Nat.and_one_is_mod]
  omega
section
variable {X : Cx}
theorem op_orNat : OpR X (binaryOp .BitOr) (fun x y H Q => ∃ n m : Nat, x = .int n ∧ y = .int m ∧ Q (.int ((n ||| m : Nat) : Int)) H) := fun pins s σ H x y u v Q I rx ry h => by
  obtain ⟨n, m, rfl, rfl, q⟩ := h
  exact op_or pins s σ H _ _ u v Q I rx ry ⟨_, _, rfl, rfl, by dsimp only; rw [bitOr_nat]; exact q⟩
theorem op_andNat : OpR X (binaryOp .BitAnd) (fun x y H Q => ∃ n m : Nat, x = .int n ∧ y = .int m ∧ Q (.int ((n &&& m : Nat) : Int)) H) := fun pins s σ H x y u v Q I rx ry h => by
  obtain ⟨n, m, rfl, rfl, q⟩ := h
  exact op_and pins s σ H _ _ u v Q I rx ry ⟨_, _, rfl, rfl, by dsimp only; rw [bitAnd_nat]; exact q⟩
theorem op_andEven : OpR X (binaryOp .BitAnd) (fun x y H Q => ∃ n : Nat, x = .int n ∧ y = .int (-2) ∧ Q (.int ((n / 2 * 2 : Nat) : Int)) H) := fun pins s σ H x y u v Q I rx ry h => by
  obtain ⟨n, rfl, rfl, q⟩ := h
  exact op_and pins s σ H _ _ u v Q I rx ry ⟨_, _, rfl, rfl, by dsimp only; rw [bitAnd_even]; exact q⟩
theorem op_shlNat : OpR X (binaryOp .LShift) (fun x y H Q => ∃ n k : Nat, x = .int n ∧ y = .int k ∧ n < 2 ^ 4000 ∧ k ≤ 4000 ∧ Q (.int ((n <<< k : Nat) : Int)) H) := fun pins s σ H x y u v Q I rx ry h => by
  obtain ⟨n, k, rfl, rfl, hn, hk, q⟩ := h
  refine op_shlN pins s σ H _ _ u v Q I rx ry ⟨n, k, rfl, rfl, shl_ok (n := 4000) (by rw [Int.natAbs_natCast]; exact hn) (by omega), ?_⟩
  have e : (n : Int) * 2 ^ k = ((n <<< k : Nat) : Int) := by rw [Nat.shiftLeft_eq]; push_cast; rfl
  rw [e]
  exact q
theorem op_shrNat : OpR X (binaryOp .RShift) (fun x y H Q => ∃ n k : Nat, x = .int n ∧ y = .int k ∧ Q (.int ((n >>> k : Nat) : Int)) H) := fun pins s σ H x y u v Q I rx ry h => by
  obtain ⟨n, k, rfl, rfl, q⟩ := h
  refine op_shrN pins s σ H _ _ u v Q I rx ry ⟨n, k, rfl, rfl, ?_⟩
  have e : (n : Int) / 2 ^ k = ((n >>> k : Nat) : Int) := by rw [Nat.shiftRight_eq_div_pow]; push_cast; rfl
  rw [e]
  exact q
theorem op_addNat : OpR X (binaryOp .Add) (fun x y H Q => ∃ n m : Nat, x = .int n ∧ y = .int m ∧ Q (.int ((n + m : Nat) : Int)) H) := op_addN
theorem op_subNat : OpR X (binaryOp .Sub) (fun x y H Q => ∃ n m : Nat, x = .int n ∧ y = .int m ∧ m ≤ n ∧ Q (.int ((n - m : Nat) : Int)) H) := op_subN
end
/-! ### bounds -/
theorem or_lt {a b k : Nat} (ha : a < 2 ^ k) (hb : b < 2 ^ k) : a ||| b < 2 ^ k := Nat.or_lt_two_pow ha hb
theorem shl_lt {a k j : Nat} (ha : a < 2 ^ k) : a <<< j < 2 ^ (k + j) := by
  rw [Nat.shiftLeft_eq, Nat.pow_add]
  exact Nat.mul_lt_mul_of_pos_right ha (Nat.two_pow_pos j)
theorem shr_le (a k : Nat) : a >>> k ≤ a := by
  rw [Nat.shiftRight_eq_div_pow]
  exact Nat.div_le_self _ _
theorem lt_mono {a j k : Nat} (h : a < 2 ^ j) (l : j ≤ k) : a < 2 ^ k := Nat.lt_of_lt_of_le h (Nat.pow_le_pow_right (by decide) l)
end Tl

set_option autoImplicit false
set_option maxErrors 4
namespace K02
open PySem PySem.Spec PyProof.Rows L2 Tl
/-! ### nets, as they are reckoned -/
structure LNet where
  chars : List Str
  follow : List Nat
  exits : Nat
def LNet.Ok (n : LNet) : Prop := n.follow.length = n.chars.length + 1 ∧ n.chars.length ≤ 1000 ∧ (∀ x ∈ n.follow, x < 2 ^ (n.chars.length + 1)) ∧ n.exits < 2 ^ (n.chars.length + 1) ∧ ∀ s ∈ n.chars, s.cps.size ≤ 1000
def pcL (l : Nat) (m : Option Nat) : Nat := m.getD (Nat.max l 1)
def ren (p s : Nat) : Nat := ((p >>> 1) <<< (1 + s)) ||| (p &&& 1)
def runL (sg : Str) (l : Nat) (m : Option Nat) : LNet :=
  ⟨List.replicate (pcL l m) sg, (List.range (pcL l m)).map (fun t => 1 <<< (1 + t)) ++ [m.elim (1 <<< pcL l m) fun _ => 0], (1 <<< (pcL l m + 1)) - (1 <<< l)⟩
theorem ren_lt {p s k : Nat} (h : p < 2 ^ (k + 1)) : ren p s < 2 ^ (k + s + 1) := by
  unfold ren
  have e : p >>> 1 < 2 ^ k := by
    rw [Nat.shiftRight_eq_div_pow]
    exact Nat.div_lt_of_lt_mul (by rw [Nat.pow_succ] at h; omega)
  refine or_lt ?_ ?_
  · have z := shl_lt (j := 1 + s) e
    have e2 : k + (1 + s) = k + s + 1 := by omega
    rw [e2] at z
    exact z
  · refine Nat.lt_of_le_of_lt (Nat.and_le_right) ?_
    exact Nat.lt_of_lt_of_le (show 1 < 2 ^ 1 by decide) (Nat.pow_le_pow_right (by decide) (by omega))
theorem one_shl (k : Nat) : 1 <<< k = 2 ^ k := by rw [Nat.shiftLeft_eq, Nat.one_mul]
theorem pcL_le {l : Nat} {m : Option Nat} (h : ∀ n, m = some n → l ≤ n) : l ≤ pcL l m := by
  cases m with
  | none => exact Nat.le_max_left _ _
  | some n => exact h n rfl
theorem runL_ok {sg : Str} {l : Nat} {m : Option Nat} (hs : sg.cps.size ≤ 1000) (h : ∀ n, m = some n → l ≤ n) (hp : pcL l m ≤ 1000) : (runL sg l m).Ok := by
  unfold LNet.Ok runL
  refine ⟨by simp, by simpa using hp, fun x hx => ?_, ?_, fun s h => by rw [List.eq_of_mem_replicate h]; exact hs⟩
  · simp only [List.length_replicate]
    rcases List.mem_append.mp hx with hx | hx
    · obtain ⟨t, ht, rfl⟩ := List.mem_map.mp hx
      rw [List.mem_range] at ht
      rw [one_shl]
      exact Nat.pow_lt_pow_right (by decide) (by omega)
    · rw [List.mem_singleton.mp hx]
      cases m with
      | none =>
        show 1 <<< pcL l none < _
        rw [one_shl]
        exact Nat.pow_lt_pow_right (by decide) (by omega)
      | some n => exact Nat.two_pow_pos _
  · simp only [List.length_replicate]
    rw [one_shl, one_shl]
    have z : 0 < 2 ^ l := Nat.two_pow_pos _
    have z2 : 0 < 2 ^ (pcL l m + 1) := Nat.two_pow_pos _
    omega
def intsV (xs : List Nat) : List V := xs.map fun x => V.int (x : Nat)
def strsV (xs : List Str) : List V := xs.map V.str
/-! dicts from texts to numbers -/
abbrev SN := List (Str × Nat)
def kvsV (d : SN) : List (Key × V) := d.map fun p => (Sum.inr p.1, V.int (p.2 : Nat))
def getN (d : SN) (s : Str) : Option Nat := (d.find? fun p => decide (p.1 = s)).map (·.2)
def putN (d : SN) (s : Str) (v : Nat) : SN := if (d.any fun p => decide (p.1 = s)) = true then d.map (fun p => if p.1 = s then (p.1, v) else p) else d ++ [(s, v)]
def addN (d : SN) (s : Str) (v : Nat) : SN := putN d s ((getN d s).getD 0 ||| v)
def bySt (cs : List Str) : SN := (List.range cs.length).foldl (fun d i => addN d (cs.getD i default) (1 <<< (1 + i))) []
def spread (c : SN) (s : Str) (v : Nat) : SN := s.cps.toList.foldl (fun c n => addN c ⟨#[n]⟩ v) c
def byCh (d : SN) : SN := d.foldl (fun c p => spread c p.1 p.2) []
def standsFor (cs : List Str) : List (Key × V) := kvsV (byCh (bySt cs))
theorem putN_length (d : SN) (s : Str) (v : Nat) : (putN d s v).length ≤ d.length + 1 := by
  unfold putN
  split <;> simp
theorem kvsV_get (d : SN) (s : Str) : valV (kvsV d) (Sum.inr s) = (getN d s).map fun n => V.int (n : Nat) := by
  unfold valV kvsV getN
  induction d with
  | nil => rfl
  | cons p r ih =>
    rw [List.map_cons, List.find?_cons, List.find?_cons]
    by_cases e : p.1 = s
    · rw [decide_eq_true e, decide_eq_true (show (Sum.inr p.1 : Key) = Sum.inr s by rw [e])]
      rfl
    · rw [decide_eq_false e, decide_eq_false (show ¬ (Sum.inr p.1 : Key) = Sum.inr s from fun z => e (Sum.inr.inj z))]
      exact ih
theorem kvsV_put (d : SN) (s : Str) (v : Nat) : putK (kvsV d) (Sum.inr s) (.int (v : Nat)) = kvsV (putN d s v) := by
  have ea : ((kvsV d).any fun kv => decide (kv.1 = Sum.inr s)) = d.any fun p => decide (p.1 = s) := by
    unfold kvsV
    rw [List.any_map]
    congr 1
    funext p
    show decide ((Sum.inr p.1 : Key) = Sum.inr s) = decide (p.1 = s)
    rw [decide_eq_decide]
    exact ⟨fun z => Sum.inr.inj z, fun z => by rw [z]⟩
  unfold putK putN
  rw [ea]
  split
  · unfold kvsV
    rw [List.map_map, List.map_map]
    refine List.map_congr_left fun p _ => ?_
    by_cases e : p.1 = s
    · simp [e]
    · have e2 : ¬ (Sum.inr p.1 : Key) = Sum.inr s := fun z => e (Sum.inr.inj z)
      simp [e]
  · unfold kvsV
    rw [List.map_append]
    rfl
/-- the net n stands at r -/
def NetAt (NC : Addr) (H : Hp) (r : Addr) (n : LNet) : Prop := ∃ dx c f d, H r = some (.ins NC dx [("chars", .ref c), ("follow", .ref f), ("exits", .int (n.exits : Nat)), ("stands_for", .ref d)]) ∧ H c = some (.lst (strsV n.chars)) ∧ H f = some (.lst (intsV n.follow)) ∧ H d = some (.dK (standsFor n.chars))
theorem NetAt.same {NC : Addr} {H H' : Hp} {r : Addr} {n : LNet} (h : NetAt NC H r n) (s : Same H H') : NetAt NC H' r n := by
  obtain ⟨dx, c, f, d, h1, h2, h3, h4⟩ := h
  exact ⟨dx, c, f, d, s _ _ h1, s _ _ h2, s _ _ h3, s _ _ h4⟩
/-- the net n has been made at r over the lists at c and f -/
def NetNew (NC : Addr) (H H' : Hp) (r c f : Addr) (n : LNet) : Prop := ∃ dx d, H d = none ∧ H' r = some (.ins NC dx [("chars", .ref c), ("follow", .ref f), ("exits", .int (n.exits : Nat)), ("stands_for", .ref d)]) ∧ H' c = some (.lst (strsV n.chars)) ∧ H' f = some (.lst (intsV n.follow)) ∧ H' d = some (.dK (standsFor n.chars))
theorem NetNew.at {NC : Addr} {H H' : Hp} {r c f : Addr} {n : LNet} (h : NetNew NC H H' r c f n) : NetAt NC H' r n := by
  obtain ⟨dx, d, _, h1, h2, h3, h4⟩ := h
  exact ⟨dx, c, f, d, h1, h2, h3, h4⟩
theorem NetNew.of {NC : Addr} {H0 H H' : Hp} {r c f : Addr} {n : LNet} (s : Same H0 H) (h : NetNew NC H H' r c f n) : NetNew NC H0 H' r c f n := by
  obtain ⟨dx, d, h0, h⟩ := h
  exact ⟨dx, d, s.free h0, h⟩
/-- a new net, beside a heap in which all stands as it stood -/
abbrev GivesNet (NC : Addr) (H : Hp) (Q : VK) (n : LNet) : Prop := ∀ r c f H', Same H H' → H r = none → H c = none → H f = none → NetNew NC H H' r c f n → Q (.ref r) H'
/-- all of it stays when what was there before it is changed -/
theorem NetNew.put {NC : Addr} {H H' : Hp} {r c f D : Addr} {n : LNet} {o u : HO} (h : NetNew NC H H' r c f n) (hr : H r = none) (hc : H c = none) (hf : H f = none) (hD : H D = some o) : NetAt NC (upd H' D u) r n := by
  obtain ⟨dx, d, h0, h1, h2, h3, h4⟩ := h
  have ne : ∀ {x : Addr}, H x = none → x ≠ D := fun {x} z e => by
    rw [e, hD] at z
    cases z
  exact ⟨dx, c, f, d, by rw [upd_ne (ne hr)]; exact h1, by rw [upd_ne (ne hc)]; exact h2, by rw [upd_ne (ne hf)]; exact h3, by rw [upd_ne (ne h0)]; exact h4⟩
section
variable {P : Program} {w : World} {K : PySem.W.Frag} {mg : Str → Option Value} {base : Heap}
def spRen : Sp := fun vs H Q _ => ∃ p s : Nat, vs = [.int (p : Nat), .int (s : Nat)] ∧ p < 2 ^ 2000 ∧ s ≤ 2000 ∧ Q (.int (ren p s : Nat)) H
theorem ok_ren {f : Addr} {fd : FuncData} (F : FnP K "renumbered" "renumbered" s_renumbered f fd) (gS : ∃ t, mg "START" = some (.int 1 t)) : FnOk P w K mg base CX0 1 f fd ["places", "shift"] spRen := by
  obtain ⟨t, gS⟩ := gS
  refine F.ok sc_renumbered (fun vs H Q E h => ?_) (fun cdv A outer s H vs Q E hr h => ?_)
  · obtain ⟨p, s, rfl, _⟩ := h
    rfl
  · obtain ⟨p, s, rfl, hp, hs, q⟩ := h
    refine ⟨_, PSs.nox (pss_one (ps_ret (pe_op op_orNat (pe_op op_shlNat (pe_op op_shrNat (pv 0) pe_int) (pe_op op_addNat pe_int (pv 1))) (pe_op op_andNat (pv 0) (pe_glob (v := .int 1) (by rfl) gS ⟨_, rfl⟩))))), ?_⟩
    refine ⟨_, rfl, p, 1, rfl, rfl, _, rfl, 1, s, rfl, rfl, p >>> 1, 1 + s, rfl, rfl, ?_, by omega, _, rfl, p, 1, rfl, rfl, _, _, rfl, rfl, q⟩
    exact Nat.lt_of_le_of_lt (shr_le _ _) (lt_mono hp (by decide))
/-- how Net(..) is made -/
def CanNet (P : Program) (w : World) (K : PySem.W.Frag) (mg : Str → Option Value) (base : Heap) (NC : Addr) (k : Nat) : Prop := ∃ f fd, Mk K NC f ∧ mg "Net" = some (.ref NC) ∧ Binds K fd ["self", "chars", "follow", "exits"] [] ∧
  FnOk P w K mg base CX0 k f fd ["self", "chars", "follow", "exits"] (fun vs H Q _ => ∃ (p dx c f : Addr) (n : LNet), vs = [.ref p, .ref c, .ref f, .int (n.exits : Nat)] ∧ n.Ok ∧ H p = some (.ins NC dx []) ∧ H c = some (.lst (strsV n.chars)) ∧ H f = some (.lst (intsV n.follow)) ∧
    ∀ H', (∀ x o, H x = some o → x ≠ p → H' x = some o) → NetNew NC H H' p c f n → Q .non H')
theorem make_net {NC c f : Addr} {H : Hp} {Q : VK} {n : LNet} (ok : n.Ok) (hc : H c = some (.lst (strsV n.chars))) (hf : H f = some (.lst (intsV n.follow))) (q : ∀ r H', Same H H' → H r = none → NetNew NC H H' r c f n → Q (.ref r) H') : ∀ x dx, H x = none → H dx = none → dx ≠ x →
    (fun (vs : List V) (H : Hp) (Q : VK) (_ : XK) => ∃ (p dx c f : Addr) (n : LNet), vs = [.ref p, .ref c, .ref f, .int (n.exits : Nat)] ∧ n.Ok ∧ H p = some (.ins NC dx []) ∧ H c = some (.lst (strsV n.chars)) ∧ H f = some (.lst (intsV n.follow)) ∧
      ∀ H', (∀ x o, H x = some o → x ≠ p → H' x = some o) → NetNew NC H H' p c f n → Q .non H') (.ref x :: ([.ref c, .ref f, .int (n.exits : Nat)] ++ [])) (upd (upd H dx (.own x)) x (.ins NC dx [])) (fun v H2 => v = .non ∧ Q (.ref x) H2) E0 := by
  intro x dx hx hdx ne
  have far : ∀ {b : Addr} {o : HO}, H b = some o → (upd (upd H dx (.own x)) x (.ins NC dx [])) b = some o := fun {b o} e => by
    rw [upd_ne (ne_of_none e hx), upd_ne (ne_of_none e hdx)]
    exact e
  exact ⟨x, dx, c, f, n, rfl, ok, upd_same, far hc, far hf, fun H' k e => ⟨rfl, q x H' (fun b o z => k b o (far z) (ne_of_none z hx)) hx (e.of fun b o z => far z)⟩⟩
end
end K02

set_option autoImplicit false
/-! Steps through a reading. -/
namespace Tl
open PySem PySem.Spec PyProof.Rows L2
theorem asg_go {te : TE} {g : TG} {D : Ends} {σ : L2.St} {H : Hp} (h : te σ H fun x H1 => g x σ H1 D.nx) : tAsg te g D σ H := h
theorem seq_go {t u : TS} {D : Ends} {σ : L2.St} {H : Hp} (h : t { D with nx := u D } σ H) : tSeq t u D σ H := h
theorem name_go {i : Nat} {v : V} {σ : L2.St} {H : Hp} {Q : L2.St → Hp → Prop} (h : Q (σ.set i (some v)) H) : gName i v σ H Q := h
theorem yes_keep {σ : L2.St} {H : Hp} {Ya Na : Hp → Prop} (h : Ya H) : tYes σ H (fun b H3 => if b = true then Ya H3 else Na H3) := by
  show if true = true then Ya H else Na H
  rw [if_pos rfl]
  exact h
theorem rep_flat {α : Type} (x : α) : ∀ n : Nat, (List.replicate n [x]).flatten = List.replicate n x
  | 0 => rfl
  | n + 1 => by rw [List.replicate_succ, List.flatten_cons, rep_flat x n, List.replicate_succ]; rfl
theorem te_go {t : TE} {σ : L2.St} {H : Hp} {Q : VK} (v : V) (h : ∀ Q' : VK, Q' v H → t σ H Q') (q : Q v H) : t σ H Q := h Q q
/-- an int as a test -/
theorem tru_int {X : Cx} : TruR X (fun x H Q => ∃ i, x = .int i ∧ Q (i != 0) H) := fun pins s σ H x v Q I r h => by
  obtain ⟨i, rfl, q⟩ := h
  exact tru_ok pins s σ H _ v Q I r ⟨_, rfl, q⟩
theorem pt_int {X : Cx} {a : Expr} {ta : TE} (ha : PE X a ta) (he : ∀ whole, isTrue a X.env whole = (do let v ← whole; standAt a.pos; holding [v] (truthy v)) := by intro _; rfl) : PT X a (fun σ H Q => ta σ H fun x H' => ∃ i, x = .int i ∧ Q (i != 0) H') := pt_truthR ha tru_int he
end Tl

set_option autoImplicit false
set_option maxErrors 4
namespace K02
open PySem PySem.Spec PyProof.Rows L2 Tl
abbrev mostV (m : Option Nat) : V := m.elim .non fun n => .int (n : Nat)
section
variable {P : Program} {w : World} {K : PySem.W.Frag} {mg : Str → Option Value} {base : Heap} {NC : Addr}
def spRunNet (NC : Addr) : Sp := fun vs H Q _ => ∃ (sg : Str) (l : Nat) (m : Option Nat), vs = [.str sg, .int (l : Nat), mostV m] ∧ sg.cps.size ≤ 1000 ∧ (∀ n, m = some n → l ≤ n) ∧ pcL l m ≤ 500 ∧ GivesNet NC H Q (runL sg l m)
theorem ok_run_net {k : Nat} {f : Addr} {fd : FuncData} (F : FnP K "run_net" "run_net" s_run_net f fd) (N : Nms mg) (C : Can P w K mg base CX0 "place_count" ["least", "most"] 1 spPc) (M : CanNet P w K mg base NC k) : FnOk P w K mg base CX0 (k + 2) f fd ["signs", "least", "most"] (spRunNet NC) := by
  obtain ⟨fC, fdC, GC, gC, kC, bC⟩ := C
  obtain ⟨fM, fdM, MM, gM, bM, GM⟩ := M
  have nd := sc_run_net.nd
  refine F.ok sc_run_net (fun vs H Q E h => ?_) (fun cdv A outer s H vs Q E hr h => ?_)
  · obtain ⟨sg, l, m, rfl, _⟩ := h
    rfl
  · obtain ⟨sg, l, m, rfl, hsg, hl, hp, q⟩ := h
    refine ⟨_, PSs.nox (pss_cons (ps_set (i := 3) nd rfl (.inl rfl) (pe_call GC (hr.mono (by omega)) (by rfl) gC kC bC .nil pass0 (pa_cons (pv 1) (pa_cons (pv 2) pa_nil))))
      (pss_cons (ps_set (i := 4) nd rfl (.inl rfl) (pe_ifExp (pt_cmpR op_isN (pv 2) pe_non (nomark _)) (pe_op op_shlNat pe_int (pv 3)) pe_int))
      (pss_cons (ps_set (i := 6) nd rfl (.inl rfl) (pe_op op_cat (pe_lc (own := [("taken", 5)]) (g := gName 5) (tt := tYes) rfl nd (pi_range1 rfl N.range (pa_cons (pv 3) pa_nil)) (blkOk_by (N := ["signs", "least", "most", "count", "after_last", "taken", "follow", "exits"]) (sc := defScope s_run_net) (by decide +kernel)) (fun _ _ _ _ _ => pg_name (i := 5) nd rfl (Or.inl rfl)) (fun _ _ _ _ _ => pts_nil)
          (fun _ _ _ _ _ => pe_op op_shlNat pe_int (pe_op op_addNat pe_int (pv 5)))) (pe_lst (pa_cons (pv 4) pa_nil))))
      (pss_cons (ps_set (i := 7) nd rfl (.inl rfl) (pe_op op_subNat (pe_op op_shlNat pe_int (pe_op op_addNat (pv 3) pe_int)) (pe_op op_shlNat pe_int (pv 1))))
      (pss_one (ps_ret (pe_make MM GM hr (by rfl) gM bM .nil pass0 (pa_cons (pe_op op_rep (pe_lst (pa_cons (pv 0) pa_nil)) (pv 3)) (pa_cons (pv 6) (pa_cons (pv 7) pa_nil)))))))))), ?_⟩
    refine ⟨_, rfl, _, rfl, l, m, rfl, ?_⟩
    refine name_go ?_
    dsimp only
    have ec : m.getD (Nat.max l 1) = pcL l m := rfl
    rw [ec]
    have lc := pcL_le hl
    refine seq_go (asg_go ?_)
    have wide : 1 < 2 ^ 4000 := Nat.lt_of_lt_of_le (show 1 < 2 ^ 1 by decide) (Nat.pow_le_pow_right (by decide) (by decide))
    refine te_go (.int ((m.elim (1 <<< pcL l m) fun _ => 0 : Nat) : Int)) (fun Q' z => ?_) ?_
    · cases m with
      | none => exact ⟨_, rfl, rfl, _, rfl, iteT ⟨_, rfl, 1, pcL l none, rfl, rfl, wide, by omega, z⟩⟩
      | some n => exact ⟨_, rfl, rfl, _, rfl, iteF z⟩
    refine name_go ?_
    dsimp only
    refine seq_go (asg_go ?_)
    have tn : ((pcL l m : Nat) : Int).toNat = pcL l m := Int.toNat_natCast _
    refine ⟨_, rfl, ((pcL l m : Nat) : Int), rfl, by omega, by omega, fun D hD => ?_⟩
    refine lc_range (lo := 0) (n := ((pcL l m : Nat) : Int).toNat) (fun i H' => H' D = some (.lst (intsV ((List.range i).map fun t => 1 <<< (1 + t)))) ∧ Same H H') ⟨upd_same, same_new hD⟩ ?_ ?_
    · rintro i H' hi ⟨e, sm⟩
      rw [tn] at hi
      refine ⟨rfl, yes_keep ?_⟩
      have ei : (0 : Int) + (i : Int) = ((i : Nat) : Int) := Int.zero_add _
      rw [ei]
      refine ⟨_, rfl, 1, i, rfl, rfl, 1, 1 + i, rfl, rfl, wide, by omega, _, e, ?_, ?_, ?_⟩
      · unfold intsV
        rw [List.length_map, List.length_map, List.length_range]
        exact small1000 (by omega)
      · rw [upd_same, List.range_succ]
        unfold intsV
        rw [List.map_append, List.map_append]
        rfl
      · intro x u z
        rw [upd_ne (ne_of_none z hD)]
        exact sm _ _ z
    · rintro H1 ⟨e1, s1⟩
      rw [tn] at e1
      have r1 := runL_ok (sg := sg) hsg hl (Nat.le_trans hp (by decide))
      refine ⟨_, rfl, line_small (by show 1 ≤ 16777216; decide), fun b hb => ?_⟩
      have s2 := s1.trans (same_new (o := .lst [.int ((m.elim (1 <<< pcL l m) fun _ => 0 : Nat) : Int)]) hb)
      refine ⟨D, b, _, [.int ((m.elim (1 <<< pcL l m) fun _ => 0 : Nat) : Int)], rfl, rfl, (same_new hb) _ _ e1, upd_same, ?_, fun fo hfo => ?_⟩
      · unfold intsV
        rw [List.length_map, List.length_map, List.length_range]
        exact line_small (by show pcL l m + 1 ≤ 16777216; omega)
      have ef : intsV ((List.range (pcL l m)).map fun t => 1 <<< (1 + t)) ++ [.int ((m.elim (1 <<< pcL l m) fun _ => 0 : Nat) : Int)] = intsV (runL sg l m).follow := by
        unfold intsV runL
        rw [List.map_append]
        rfl
      rw [ef]
      have s3 := s2.trans (same_new (o := .lst (intsV (runL sg l m).follow)) hfo)
      refine name_go ?_
      dsimp only
      refine seq_go (asg_go ?_)
      have le : 1 <<< l ≤ 1 <<< (pcL l m + 1) := by
        rw [one_shl, one_shl]
        exact Nat.pow_le_pow_right (by decide) (by omega)
      refine ⟨_, rfl, pcL l m, 1, rfl, rfl, 1, pcL l m + 1, rfl, rfl, wide, by omega, _, rfl, 1, l, rfl, rfl, wide, by omega, _, _, rfl, rfl, le, ?_⟩
      refine name_go ?_
      dsimp only
      refine ⟨_, rfl, line_small (by show 1 ≤ 16777216; decide), fun b2 hb2 => ?_⟩
      refine ⟨_, rfl, b2, ((pcL l m : Nat) : Int), _, rfl, rfl, upd_same, by omega, by omega, ?_, fun c hc => ?_⟩
      · rw [tn]
        exact line_small (by show 1 * pcL l m ≤ 16777216; omega)
      have ec2 : (List.replicate ((pcL l m : Nat) : Int).toNat [V.str sg]).flatten = strsV (runL sg l m).chars := by
        rw [tn, rep_flat]
        unfold strsV runL
        rw [List.map_replicate]
      rw [ec2]
      have k1 := same_new (o := .lst [V.str sg]) hb2
      have k2 := same_new (o := .lst (strsV (runL sg l m).chars)) hc
      refine ⟨_, rfl, _, rfl, ?_⟩
      exact make_net (n := runL sg l m) r1 upd_same (k2 _ _ (k1 _ _ upd_same)) fun r H' sm hr0 at_ => q r c fo H' (((s3.trans k1).trans k2).trans sm) (((s3.trans k1).trans k2).free hr0) ((s3.trans k1).free hc) (s2.free hfo) (at_.of ((s3.trans k1).trans k2))
end
end K02

set_option autoImplicit false
set_option maxErrors 4
namespace K02
open PySem PySem.Spec PyProof.Rows L2 Tl
/-! ### nets one after the other -/
def joinF (fo : List Nat) (ex first : Nat) : List Nat := (List.range fo.length).map fun j => if (ex >>> j) &&& 1 = 0 then fo.getD j 0 else fo.getD j 0 ||| first
def chainStep (a n : LNet) : LNet :=
  ⟨a.chars ++ n.chars, joinF a.follow a.exits (ren (n.follow.getD 0 0) a.chars.length) ++ (n.follow.drop 1).map (fun x => ren x a.chars.length), ren (n.exits / 2 * 2) a.chars.length ||| (if n.exits &&& 1 = 0 then 0 else a.exits)⟩
def chain0 : LNet := ⟨[], [0], 1⟩
def chainL (ns : List LNet) : LNet := ns.foldl chainStep chain0
theorem chain0_ok : chain0.Ok := ⟨rfl, Nat.zero_le _, fun x hx => by rw [List.mem_singleton.mp hx]; decide, by decide, fun s h => by cases h⟩
theorem getD_lt {fo : List Nat} {k j : Nat} (h : ∀ x ∈ fo, x < 2 ^ k) : fo.getD j 0 < 2 ^ k := by
  by_cases z : j < fo.length
  · rw [List.getD_eq_getElem?_getD, List.getElem?_eq_getElem z]
    exact h _ (List.getElem_mem z)
  · rw [List.getD_eq_getElem?_getD, List.getElem?_eq_none (Nat.not_lt.mp z)]
    exact Nat.two_pow_pos _
theorem chainStep_ok {a n : LNet} (ha : a.Ok) (hn : n.Ok) (small : a.chars.length + n.chars.length ≤ 1000) : (chainStep a n).Ok := by
  obtain ⟨a1, a2, a3, a4, a5⟩ := ha
  obtain ⟨n1, n2, n3, n4, n5⟩ := hn
  have up : ∀ {x : Nat}, x < 2 ^ (n.chars.length + 1) → ren x a.chars.length < 2 ^ (a.chars.length + n.chars.length + 1) := fun {x} h => by
    have z := ren_lt (s := a.chars.length) h
    rw [show n.chars.length + a.chars.length + 1 = a.chars.length + n.chars.length + 1 by omega] at z
    exact z
  have wd : ∀ {x : Nat}, x < 2 ^ (a.chars.length + 1) → x < 2 ^ (a.chars.length + n.chars.length + 1) := fun {x} h => lt_mono h (by omega)
  unfold LNet.Ok chainStep joinF
  simp only [List.length_append, List.length_map, List.length_range, List.length_drop]
  refine ⟨by omega, small, fun x hx => ?_, ?_, fun s h => (List.mem_append.mp h).elim (a5 s) (n5 s)⟩
  · rcases List.mem_append.mp hx with hx | hx
    · obtain ⟨j, _, rfl⟩ := List.mem_map.mp hx
      split
      · exact wd (getD_lt a3)
      · exact or_lt (wd (getD_lt a3)) (up (getD_lt n3))
    · obtain ⟨y, hy, rfl⟩ := List.mem_map.mp hx
      exact up (n3 y (List.mem_of_mem_drop hy))
  · refine or_lt (up ?_) ?_
    · omega
    · split
      · exact Nat.two_pow_pos _
      · exact wd a4
def charsOf (ns : List LNet) : Nat := (ns.map fun n => n.chars.length).sum
theorem cut_one {xs : List V} : cutV xs (some 1) none = xs.drop 1 := by
  unfold cutV
  cases xs with
  | nil => rfl
  | cons x r =>
    have e1 : HT.sIx (x :: r).length 0 (some 1) = 1 := by
      unfold HT.sIx
      simp
    have e2 : HT.sIx (x :: r).length (x :: r).length none = (x :: r).length := by
      unfold HT.sIx
      simp
    rw [e1, e2]
    exact List.take_of_length_le (by simp)
theorem intsV_drop (xs : List Nat) (n : Nat) : (intsV xs).drop n = intsV (xs.drop n) := by
  unfold intsV
  rw [List.map_drop]
theorem intsV_app (xs ys : List Nat) : intsV xs ++ intsV ys = intsV (xs ++ ys) := by
  unfold intsV
  rw [List.map_append]
theorem intsV_len (xs : List Nat) : (intsV xs).length = xs.length := List.length_map _
theorem intsV_get {xs : List Nat} {i : Nat} (h : i < xs.length) : (intsV xs)[i]? = some (.int (xs.getD i 0 : Nat)) := by
  unfold intsV
  rw [List.getElem?_map, List.getD_eq_getElem?_getD, List.getElem?_eq_getElem h]
  rfl
end K02

set_option autoImplicit false
set_option maxErrors 4
namespace K02
open PySem PySem.Spec PyProof.Rows L2 Tl
/-- what is asked of the class Net -/
structure NetC (K : PySem.W.Frag) (NC : Addr) : Prop where
  cl : Cls K NC
  n1 : NoAttr K NC "chars"
  n2 : NoAttr K NC "follow"
  n3 : NoAttr K NC "exits"
  n4 : NoAttr K NC "stands_for"
abbrev Prs := List (Addr × LNet)
/-- nets in a list -/
def NetsAt (NC : Addr) (H : Hp) (ps : Prs) : Prop := ∀ x ∈ ps, NetAt NC H x.1 x.2 ∧ x.2.Ok
theorem NetsAt.same {NC : Addr} {H H' : Hp} {ps : Prs} (h : NetsAt NC H ps) (s : Same H H') : NetsAt NC H' ps := fun x hx => ⟨(h x hx).1.same s, (h x hx).2⟩
def refsP (ps : Prs) : List V := ps.map fun x => V.ref x.1
def netsP (ps : Prs) : List LNet := ps.map (·.2)
def spNets (NC : Addr) (f : List LNet → LNet) : Sp := fun vs H Q _ => ∃ (l : Addr) (ps : Prs), vs = [.ref l] ∧ H l = some (.lst (refsP ps)) ∧ NetsAt NC H ps ∧ charsOf (netsP ps) ≤ 500 ∧ GivesNet NC H Q (f (netsP ps))
abbrev netF (c f d : Addr) (e : Nat) : List (Str × V) := [("chars", .ref c), ("follow", .ref f), ("exits", .int (e : Nat)), ("stands_for", .ref d)]
theorem lk_ne {f g : Str} {v : V} {r : List (Str × V)} (h : (f == g) = false) : ((g, v) :: r).lookup f = r.lookup f := by
  rw [List.lookup, h]
theorem lk_hit {f : Str} {v : V} {r : List (Str × V)} : ((f, v) :: r).lookup f = some v := by
  rw [List.lookup, beq_self_eq_true]
theorem lkC {c f d : Addr} {e : Nat} : (netF c f d e).lookup ("chars" : Str) = some (.ref c) := lk_hit
theorem lkF {c f d : Addr} {e : Nat} : (netF c f d e).lookup ("follow" : Str) = some (.ref f) := (lk_ne (by decide +kernel)).trans lk_hit
theorem lkE {c f d : Addr} {e : Nat} : (netF c f d e).lookup ("exits" : Str) = some (.int (e : Nat)) := (lk_ne (by decide +kernel)).trans ((lk_ne (by decide +kernel)).trans lk_hit)
theorem fold_take {α β : Type} (f : β → α → β) (b : β) (xs : List α) {i : Nat} {x : α} (h : xs[i]? = some x) : (xs.take (i + 1)).foldl f b = f ((xs.take i).foldl f b) x := by
  rw [List.take_add_one, h, List.foldl_append]
  rfl
theorem charsOf_take (ns : List LNet) (i : Nat) : charsOf (ns.take i) ≤ charsOf ns := by
  have e : charsOf ns = charsOf (ns.take i) + charsOf (ns.drop i) := by
    unfold charsOf
    rw [← List.sum_append, ← List.map_append, List.take_append_drop]
  omega
theorem charsOf_succ (ns : List LNet) {i : Nat} {n : LNet} (h : ns[i]? = some n) : charsOf (ns.take (i + 1)) = charsOf (ns.take i) + n.chars.length := by
  unfold charsOf
  rw [List.take_add_one, h, List.map_append, List.sum_append]
  simp
section
variable {P : Program} {w : World} {K : PySem.W.Frag} {mg : Str → Option Value} {base : Heap} {NC : Addr}
abbrev rOrN : R2 := fun x y H Q => ∃ n m : Nat, x = .int n ∧ y = .int m ∧ Q (.int ((n ||| m : Nat) : Int)) H
set_option maxHeartbeats 20000000 in
theorem ok_chained {k : Nat} {f : Addr} {fd : FuncData} (F : FnP K "chained" "chained" s_chained f fd) (N : Nms mg) (gS : ∃ t, mg "START" = some (.int 1 t)) (T : NetC K NC) (R : Can P w K mg base CX0 "renumbered" ["places", "shift"] 1 spRen) (M : CanNet P w K mg base NC k) : FnOk P w K mg base CX0 (k + 2) f fd ["nets"] (spNets NC chainL) := by
  obtain ⟨tS, gS⟩ := gS
  obtain ⟨fR, fdR, GR, gR, kR, bR⟩ := R
  obtain ⟨fM, fdM, MM, gM, bM, GM⟩ := M
  have nd := sc_chained.nd
  refine F.ok sc_chained (fun vs H Q E h => ?_) (fun cdv A outer s H vs Q E hr h => ?_)
  · obtain ⟨l, ps, rfl, _⟩ := h
    rfl
  · obtain ⟨l, ps, rfl, hl, hn, hc, q⟩ := h
    have r1 := hr.mono (show 1 ≤ k + 1 by omega)
    refine ⟨_, PSs.nox (pss_cons (ps_set (i := 1) nd rfl (by first | exact .inl rfl | exact .inr rfl) (pe_lst pa_nil))
      (pss_cons (ps_set (i := 2) nd rfl (by first | exact .inl rfl | exact .inr rfl) (pe_lst (pa_cons pe_int pa_nil)))
      (pss_cons (ps_set (i := 3) nd rfl (by first | exact .inl rfl | exact .inr rfl) (pe_glob (v := .int 1) (by rfl) gS ⟨_, rfl⟩))
      (pss_cons (ps_for PassesOwn.never rfl (pi_list (pv 0)) (pg_name (i := 4) nd rfl (by first | exact .inl rfl | exact .inr rfl))
        (pss_cons (ps_set (i := 5) nd rfl (by first | exact .inl rfl | exact .inr rfl) (pe_callB call_len_seq (by rfl) N.len PySem.boot_len (pa_cons (pv 1) pa_nil)))
        (pss_cons (ps_set (i := 6) nd rfl (by first | exact .inl rfl | exact .inr rfl) (pe_call GR r1 (by rfl) gR kR bR .nil pass0 (pa_cons (pe_ix ix_list (pe_fld (pv 4) rfl) pe_int (fun _ _ => rfl)) (pa_cons (pv 5) pa_nil))))
        (pss_cons (ps_setLc (i := 2) (own := [("at", 7), ("ways", 8)]) (g := gTup K 2 (gCons (gName 7) (gCons (gName 8) gNil))) (tt := tYes) rfl nd rfl rfl rfl (pi_enum (by rfl) N.enumerate (pa_cons (pv 2) pa_nil)) (blkOk_by (N := ["nets", "chars", "follow", "exits", "net", "shift", "first", "at", "ways", "earlier"]) (sc := defScope s_chained) (by decide +kernel))
            (fun _ _ _ _ _ => pg_tup rfl (pgs_cons (pg_name (i := 7) nd rfl (Or.inl rfl) (Or.inr rfl)) (pgs_cons (pg_name (i := 8) nd rfl (Or.inl rfl) (Or.inr rfl)) pgs_nil))) (fun _ _ _ _ _ => pts_nil)
            (fun _ _ _ _ _ => pe_ifExp (pt_int (pe_op op_andNat (pe_op op_shrNat (pv 3) (pv 7)) pe_int)) (pe_op op_orNat (pv 8) (pv 6)) (pv 8)))
        (pss_cons (ps_set (i := 2) nd rfl (by first | exact .inl rfl | exact .inr rfl) (pe_op op_cat (pv 2) (pe_lc (own := [("ways", 8)]) (g := gName 8) (tt := tYes) rfl nd (pi_list (pe_slice sl_list (pe_fld (pv 4) rfl) (po_some pe_int) po_none)) (blkOk_by (N := ["nets", "chars", "follow", "exits", "net", "shift", "first", "at", "ways", "earlier"]) (sc := defScope s_chained) (by decide +kernel))
            (fun _ _ _ _ _ => pg_name (i := 8) nd rfl (Or.inl rfl)) (fun _ _ _ _ _ => pts_nil) (fun _ _ _ _ _ => pe_call GR r1 (by rfl) gR kR bR .nil pass0 (pa_cons (pv 8) (pa_cons (pv 5) pa_nil))))))
        (pss_cons (ps_set (i := 9) nd rfl (by first | exact .inl rfl | exact .inr rfl) (pe_ifExp (pt_int (pe_op op_andNat (pe_fld (pv 4) rfl) (pe_glob (v := .int 1) (by rfl) gS ⟨_, rfl⟩))) (pv 3) pe_int))
        (pss_cons (ps_set (i := 3) nd rfl (by first | exact .inl rfl | exact .inr rfl) (pe_op op_orNat (pe_call GR r1 (by rfl) gR kR bR .nil pass0 (pa_cons (pe_op op_andEven (pe_fld (pv 4) rfl) (pe_un un_inv (pe_glob (v := .int 1) (by rfl) gS ⟨_, rfl⟩))) (pa_cons (pv 5) pa_nil))) (pv 9)))
        (pss_one (ps_set (i := 1) nd rfl (by first | exact .inl rfl | exact .inr rfl) (pe_op op_cat (pv 1) (pe_fld (pv 4) rfl)))))))))))
      (pss_one (ps_ret (pe_make MM GM hr (by rfl) gM bM .nil pass0 (pa_cons (pv 1) (pa_cons (pv 2) (pa_cons (pv 3) pa_nil)))))))))), ?_⟩
    refine ⟨Nat.zero_le _, fun c hcn => ?_⟩
    have sc := same_new (o := .lst []) hcn
    refine ⟨line_small (by show 1 ≤ 16777216; decide), fun fo hfo => ?_⟩
    have sf := same_new (o := .lst [.int 0]) hfo
    refine ⟨_, rfl, l, rfl, ⟨_, SqL.of ((sc.trans sf) _ _ hl)⟩, ?_⟩
    refine for_list (xs := refsP ps) (fun i σ H' => ∃ (acc : LNet) (c fo : Addr) (x4 x5 x6 x7 x8 x9 : Option V), acc = ((netsP ps).take i).foldl chainStep chain0 ∧ acc.Ok ∧ acc.chars.length = charsOf ((netsP ps).take i) ∧
      σ = [some (.ref l), some (.ref c), some (.ref fo), some (.int (acc.exits : Nat)), x4, x5, x6, x7, x8, x9] ∧ H' c = some (.lst (strsV acc.chars)) ∧ H' fo = some (.lst (intsV acc.follow)) ∧ Same H H' ∧ H c = none ∧ H fo = none) ?_ ?_ ?_ ?_
    · exact ⟨chain0, c, fo, none, none, none, none, none, none, rfl, chain0_ok, rfl, rfl, sf _ _ upd_same, upd_same, sc.trans sf, hcn, sc.free hfo⟩
    · rintro i σ H' _ ⟨_, _, _, _, _, _, _, _, _, _, _, _, _, _, _, sm, _⟩
      exact SqL.of (sm _ _ hl)
    · rintro i x σ H1 hx ⟨acc, c, fo, x4, x5, x6, x7, x8, x9, ea, ok, len, rfl, hc1, hf1, sm, _, _⟩
      obtain ⟨p, hp, rfl⟩ : ∃ p, ps[i]? = some p ∧ x = .ref p.1 := by
        unfold refsP at hx
        rw [List.getElem?_map] at hx
        cases e : ps[i]? with
        | none =>
          rw [e] at hx
          cases hx
        | some p =>
          rw [e] at hx
          exact ⟨p, rfl, (Option.some.inj hx).symm⟩
      have mem : p ∈ ps := List.mem_of_getElem? hp
      obtain ⟨nat, nok⟩ := hn p mem
      have hnp : (netsP ps)[i]? = some p.2 := by
        unfold netsP
        rw [List.getElem?_map, hp]
        rfl
      have tot := charsOf_succ (netsP ps) hnp
      have le := charsOf_take (netsP ps) (i + 1)
      have small : acc.chars.length + p.2.chars.length ≤ 500 := by omega
      obtain ⟨a1, a2, a3, a4, a5⟩ := id ok
      obtain ⟨n1, n2, n3, n4, n5⟩ := id nok
      have nat1 := nat.same sm
      obtain ⟨dx, pc, pf, pd, q1, q2, q3, q4⟩ := nat1
      have wd : ∀ {x k : Nat}, k ≤ 1002 → x < 2 ^ k → x < 2 ^ 2000 := fun {x k} hk h => lt_mono h (by omega)
      have lenV : (strsV acc.chars).length = acc.chars.length := List.length_map _
      refine name_go ?_
      dsimp only
      refine seq_go (asg_go ?_)
      refine ⟨_, rfl, c, _, rfl, .inl (SqL.of hc1), ?_⟩
      rw [lenV]
      refine name_go ?_
      dsimp only
      refine seq_go (asg_go ?_)
      have g0 : atI (intsV p.2.follow) 0 = some (.int (p.2.follow.getD 0 0 : Nat)) := atI_nat (j := 0) (intsV_get (by omega))
      refine ⟨_, rfl, p.1, NC, dx, _, _, rfl, q1, T.cl, T.n2, lkF, pf, _, 0, _, rfl, rfl, SqL.of q3, g0, _, rfl, p.2.follow.getD 0 0, acc.chars.length, rfl, wd (k := p.2.chars.length + 1) (by omega) (getD_lt n3), by omega, ?_⟩
      generalize hfirst : ren (p.2.follow.getD 0 0) acc.chars.length = first
      refine name_go ?_
      dsimp only
      refine seq_go (asg_go ?_)
      -- the ways so far
      refine ⟨_, rfl, fo, _, rfl, SqL.of hf1, fun D hD => ?_⟩
      have lenF : (intsV acc.follow).length = acc.follow.length := intsV_len _
      have sD := same_new (o := .lst []) hD
      refine lc_it (n := acc.follow.length) (by rw [← lenF]; exact walk_enum) (fun j H' => H' D = some (.lst (intsV ((joinF acc.follow acc.exits first).take j))) ∧ Same H1 H') ⟨upd_same, sD⟩ (fun j H' _ h => SqL.of (h.2 _ _ hf1)) ?_ ?_
      · rintro j x H2 H3 hj ⟨e2, s2⟩ ⟨T3, y, z, rfl, hT, rfl, hy, hz⟩
        have ey : y = .int (j : Nat) := (Option.some.inj hy).symm
        have ez : z = .int (acc.follow.getD j 0 : Nat) := by
          have hz2 : (intsV acc.follow)[j]? = some z := hz
          rw [intsV_get hj] at hz2
          exact (Option.some.inj hz2).symm
        subst ey ez
        have sT := same_new (o := .tup [.int (j : Nat), .int (acc.follow.getD j 0 : Nat)]) hT
        refine ⟨T3, _, rfl, SqT.of upd_same, rfl, _, _, rfl, _, _, rfl, rfl, rfl, yes_keep ?_⟩
        refine ⟨_, rfl, _, rfl, acc.exits, j, rfl, rfl, acc.exits >>> j, 1, rfl, rfl, _, rfl, ?_⟩
        have nx : ∀ v : Nat, v = (joinF acc.follow acc.exits first).getD j 0 → ∃ ac, upd H2 T3 (.tup [.int (j : Nat), .int (acc.follow.getD j 0 : Nat)]) D = some (.lst ac) ∧ ac.length < sizeLine ∧
            upd (upd H2 T3 (.tup [.int (j : Nat), .int (acc.follow.getD j 0 : Nat)])) D (.lst (ac ++ [.int (v : Nat)])) D = some (.lst (intsV ((joinF acc.follow acc.exits first).take (j + 1)))) ∧ Same H1 (upd (upd H2 T3 (.tup [.int (j : Nat), .int (acc.follow.getD j 0 : Nat)])) D (.lst (ac ++ [.int (v : Nat)]))) := fun v ev => by
          have lj : (joinF acc.follow acc.exits first).length = acc.follow.length := by unfold joinF; simp
          refine ⟨_, sT _ _ e2, ?_, ?_, fun b o zb => ?_⟩
          · rw [intsV_len, List.length_take]
            exact small1000 (by omega)
          · rw [upd_same, List.take_add_one, List.getElem?_eq_getElem (by omega), ← intsV_app]
            rw [List.getD_eq_getElem?_getD, List.getElem?_eq_getElem (by omega)] at ev
            rw [ev]
            rfl
          · rw [upd_ne (ne_of_none zb hD)]
            exact sT _ _ (s2 _ _ zb)
        have jv : (joinF acc.follow acc.exits first).getD j 0 = if (acc.exits >>> j) &&& 1 = 0 then acc.follow.getD j 0 else acc.follow.getD j 0 ||| first := by
          unfold joinF
          rw [List.getD_eq_getElem?_getD, List.getElem?_map, List.getElem?_range hj]
          rfl
        by_cases hb : (acc.exits >>> j) &&& 1 = 0
        · rw [hb]
          refine iteF ?_
          exact ⟨_, rfl, nx _ (by rw [jv, if_pos hb])⟩
        · have hb1 : (((acc.exits >>> j &&& 1 : Nat) : Int) != 0) = true := by
            simp only [bne_iff_ne, ne_eq]
            omega
          refine (if_pos hb1).mpr ?_
          exact ⟨_, rfl, _, rfl, _, _, rfl, rfl, nx _ (by rw [jv, if_neg hb])⟩
      · rintro H2 ⟨e2, s2⟩
        have lj : (joinF acc.follow acc.exits first).length = acc.follow.length := by unfold joinF; simp
        rw [List.take_of_length_le (by omega)] at e2
        refine name_go ?_
        dsimp only
        refine seq_go (asg_go ?_)
        -- the rest of the net
        refine ⟨_, rfl, _, rfl, p.1, NC, dx, _, _, rfl, s2 _ _ q1, T.cl, T.n2, lkF, 1, rfl, pf, _, rfl, SqL.of (s2 _ _ q3), fun sl hsl => ?_⟩
        rw [cut_one, intsV_drop]
        have s3 := s2.trans (same_new (o := .lst (intsV (p.2.follow.drop 1))) hsl)
        have e3 := (same_new (o := .lst (intsV (p.2.follow.drop 1))) hsl) _ _ e2
        refine ⟨sl, rfl, ⟨_, SqL.of upd_same⟩, fun D2 hD2 => ?_⟩
        have sD2 := same_new (o := .lst []) hD2
        refine lc_it (n := (p.2.follow.drop 1).length) (by rw [← intsV_len (p.2.follow.drop 1)]; exact walk_list) (fun j H' => H' D2 = some (.lst (intsV (((p.2.follow.drop 1).take j).map fun x => ren x acc.chars.length))) ∧ Same (upd H2 sl (.lst (intsV (p.2.follow.drop 1)))) H') ⟨upd_same, sD2⟩ (fun j H' _ h => SqL.of (h.2 _ _ upd_same)) ?_ ?_
        · rintro j x H3 _ hj ⟨e4, s4⟩ ⟨rfl, hx2⟩
          rw [intsV_get hj] at hx2
          have ex := (Option.some.inj hx2).symm
          subst ex
          refine ⟨rfl, yes_keep ?_⟩
          refine ⟨_, rfl, _, rfl, _, acc.chars.length, rfl, wd (k := p.2.chars.length + 1) (by omega) (getD_lt fun x hx => n3 x (List.mem_of_mem_drop hx)), by omega, _, e4, ?_, ?_, fun b o zb => ?_⟩
          · rw [intsV_len, List.length_map, List.length_take]
            have h9 : (p.2.follow.drop 1).length = p.2.follow.length - 1 := List.length_drop
            exact small1000 (by omega)
          · rw [upd_same, List.take_add_one, List.getElem?_eq_getElem hj, List.map_append, ← intsV_app, List.getD_eq_getElem?_getD, List.getElem?_eq_getElem hj]
            rfl
          · rw [upd_ne (ne_of_none zb hD2)]
            exact s4 _ _ zb
        · rintro H3 ⟨e4, s4⟩
          rw [List.take_of_length_le (Nat.le_refl _)] at e4
          have h9 : (p.2.follow.drop 1).length = p.2.follow.length - 1 := List.length_drop
          have s5 : Same H1 H3 := s3.trans s4
          refine ⟨D, D2, _, _, rfl, rfl, s4 _ _ e3, e4, ?_, fun fo2 hfo2 => ?_⟩
          · rw [intsV_len, intsV_len, List.length_map, lj]
            exact line_small (by omega)
          rw [intsV_app]
          have ef2 : joinF acc.follow acc.exits first ++ (p.2.follow.drop 1).map (fun x => ren x acc.chars.length) = (chainStep acc p.2).follow := by
            unfold chainStep
            rw [hfirst]
          rw [ef2]
          have s6 := s5.trans (same_new (o := .lst (intsV (chainStep acc p.2).follow)) hfo2)
          refine name_go ?_
          dsimp only
          refine seq_go (asg_go ?_)
          refine te_go (.int ((if p.2.exits &&& 1 = 0 then 0 else acc.exits : Nat) : Int)) (fun Q' zq => ?_) ?_
          · refine ⟨_, rfl, p.1, NC, dx, _, _, rfl, s6 _ _ q1, T.cl, T.n3, lkE, p.2.exits, 1, rfl, rfl, _, rfl, ?_⟩
            by_cases hb : p.2.exits &&& 1 = 0
            · rw [if_pos hb] at zq
              rw [hb]
              exact iteF zq
            · rw [if_neg hb] at zq
              have hb1 : (((p.2.exits &&& 1 : Nat) : Int) != 0) = true := by
                simp only [bne_iff_ne, ne_eq]
                omega
              refine (if_pos hb1).mpr ?_
              exact ⟨_, rfl, zq⟩
          refine name_go ?_
          dsimp only
          refine seq_go (asg_go ?_)
          refine ⟨_, rfl, p.1, NC, dx, _, _, rfl, s6 _ _ q1, T.cl, T.n3, lkE, 1, rfl, p.2.exits, rfl, rfl, _, rfl, p.2.exits / 2 * 2, acc.chars.length, rfl, wd (k := p.2.chars.length + 1) (by omega) (by omega), by omega, _, rfl, _, _, rfl, rfl, ?_⟩
          refine name_go ?_
          dsimp only
          refine asg_go ?_
          refine ⟨_, rfl, _, rfl, p.1, NC, dx, _, _, rfl, s6 _ _ q1, T.cl, T.n1, lkC, c, pc, _, _, rfl, rfl, s6 _ _ hc1, s6 _ _ q2, ?_, fun c2 hc2 => ?_⟩
          · show (strsV acc.chars).length + (strsV p.2.chars).length ≤ sizeLine
            unfold strsV
            rw [List.length_map, List.length_map]
            exact line_small (by omega)
          have ec2 : strsV acc.chars ++ strsV p.2.chars = strsV (chainStep acc p.2).chars := by
            unfold strsV chainStep
            rw [List.map_append]
          rw [ec2]
          have s7 := same_new (o := .lst (strsV (chainStep acc p.2).chars)) hc2
          refine ⟨chainStep acc p.2, c2, fo2, _, _, _, _, _, _, ?_, chainStep_ok ok nok (by omega), ?_, rfl, upd_same, s7 _ _ upd_same, (sm.trans s6).trans s7, (sm.trans s6).free hc2, (sm.trans s5).free hfo2⟩
          · rw [fold_take chainStep chain0 (netsP ps) hnp, ← ea]
          · unfold chainStep
            rw [List.length_append]
            omega
    · rintro σ H1 ⟨acc, c, fo, x4, x5, x6, x7, x8, x9, ea, ok, len, rfl, hc1, hf1, sm, z1, z2⟩
      have lr : (refsP ps).length = (netsP ps).length := by unfold refsP netsP; rw [List.length_map, List.length_map]
      rw [lr, List.take_of_length_le (Nat.le_refl _)] at ea
      refine ⟨_, rfl, _, rfl, _, rfl, ?_⟩
      subst ea
      exact make_net (n := chainL (netsP ps)) ok hc1 hf1 fun r H' s2 hr0 at_ => q r c fo H' (sm.trans s2) (sm.free hr0) z1 z2 (at_.of sm)
end
end K02

set_option autoImplicit false
set_option maxErrors 4
namespace K02
open PySem PySem.Spec PyProof.Rows L2 Tl
/-! ### nets side by side -/
def sideStep (a n : LNet) : LNet :=
  ⟨a.chars ++ n.chars, (a.follow.getD 0 0 ||| ren (n.follow.getD 0 0) a.chars.length) :: (a.follow.drop 1 ++ (n.follow.drop 1).map fun x => ren x a.chars.length), a.exits ||| ren n.exits a.chars.length⟩
def side0 : LNet := ⟨[], [0], 0⟩
def sideL (ns : List LNet) : LNet := ns.foldl sideStep side0
theorem side0_ok : side0.Ok := ⟨rfl, Nat.zero_le _, fun x hx => by rw [List.mem_singleton.mp hx]; decide, by decide, fun s h => by cases h⟩
theorem sideStep_ok {a n : LNet} (ha : a.Ok) (hn : n.Ok) (small : a.chars.length + n.chars.length ≤ 1000) : (sideStep a n).Ok := by
  obtain ⟨a1, a2, a3, a4, a5⟩ := ha
  obtain ⟨n1, n2, n3, n4, n5⟩ := hn
  have up : ∀ {x : Nat}, x < 2 ^ (n.chars.length + 1) → ren x a.chars.length < 2 ^ (a.chars.length + n.chars.length + 1) := fun {x} h => by
    have z := ren_lt (s := a.chars.length) h
    rw [show n.chars.length + a.chars.length + 1 = a.chars.length + n.chars.length + 1 by omega] at z
    exact z
  have wd : ∀ {x : Nat}, x < 2 ^ (a.chars.length + 1) → x < 2 ^ (a.chars.length + n.chars.length + 1) := fun {x} h => lt_mono h (by omega)
  unfold LNet.Ok sideStep
  simp only [List.length_append, List.length_map, List.length_cons, List.length_drop]
  refine ⟨by omega, small, fun x hx => ?_, or_lt (wd a4) (up n4), fun s h => (List.mem_append.mp h).elim (a5 s) (n5 s)⟩
  rcases List.mem_cons.mp hx with rfl | hx
  · exact or_lt (wd (getD_lt a3)) (up (getD_lt n3))
  · rcases List.mem_append.mp hx with hx | hx
    · exact wd (a3 x (List.mem_of_mem_drop hx))
    · obtain ⟨y, hy, rfl⟩ := List.mem_map.mp hx
      exact up (n3 y (List.mem_of_mem_drop hy))
section
variable {P : Program} {w : World} {K : PySem.W.Frag} {mg : Str → Option Value} {base : Heap} {NC : Addr}
set_option maxHeartbeats 20000000 in
theorem ok_side {k : Nat} {f : Addr} {fd : FuncData} (F : FnP K "side_by_side" "side_by_side" s_side_by_side f fd) (N : Nms mg) (T : NetC K NC) (R : Can P w K mg base CX0 "renumbered" ["places", "shift"] 1 spRen) (M : CanNet P w K mg base NC k) : FnOk P w K mg base CX0 (k + 2) f fd ["nets"] (spNets NC sideL) := by
  obtain ⟨fR, fdR, GR, gR, kR, bR⟩ := R
  obtain ⟨fM, fdM, MM, gM, bM, GM⟩ := M
  have nd := sc_side_by_side.nd
  refine F.ok sc_side_by_side (fun vs H Q E h => ?_) (fun cdv A outer s H vs Q E hr h => ?_)
  · obtain ⟨l, ps, rfl, _⟩ := h
    rfl
  · obtain ⟨l, ps, rfl, hl, hn, hc, q⟩ := h
    have r1 := hr.mono (show 1 ≤ k + 1 by omega)
    refine ⟨_, PSs.nox (pss_cons (ps_set (i := 1) nd rfl (by first | exact .inl rfl | exact .inr rfl) (pe_lst pa_nil))
      (pss_cons (ps_set (i := 2) nd rfl (by first | exact .inl rfl | exact .inr rfl) pe_int)
      (pss_cons (ps_set (i := 3) nd rfl (by first | exact .inl rfl | exact .inr rfl) (pe_lst pa_nil))
      (pss_cons (ps_set (i := 4) nd rfl (by first | exact .inl rfl | exact .inr rfl) pe_int)
      (pss_cons (ps_for PassesOwn.never rfl (pi_list (pv 0)) (pg_name (i := 5) nd rfl (by first | exact .inl rfl | exact .inr rfl))
        (pss_cons (ps_set (i := 6) nd rfl (by first | exact .inl rfl | exact .inr rfl) (pe_callB call_len_seq (by rfl) N.len PySem.boot_len (pa_cons (pv 1) pa_nil)))
        (pss_cons (ps_set (i := 2) nd rfl (by first | exact .inl rfl | exact .inr rfl) (pe_op op_orNat (pv 2) (pe_call GR r1 (by rfl) gR kR bR .nil pass0 (pa_cons (pe_ix ix_list (pe_fld (pv 5) rfl) pe_int (fun _ _ => rfl)) (pa_cons (pv 6) pa_nil)))))
        (pss_cons (ps_set (i := 3) nd rfl (by first | exact .inl rfl | exact .inr rfl) (pe_op op_cat (pv 3) (pe_lc (own := [("ways", 7)]) (g := gName 7) (tt := tYes) rfl nd (pi_list (pe_slice sl_list (pe_fld (pv 5) rfl) (po_some pe_int) po_none)) (blkOk_by (N := ["nets", "chars", "first", "follow", "exits", "net", "shift", "ways"]) (sc := defScope s_side_by_side) (by decide +kernel))
            (fun _ _ _ _ _ => pg_name (i := 7) nd rfl (Or.inl rfl)) (fun _ _ _ _ _ => pts_nil) (fun _ _ _ _ _ => pe_call GR r1 (by rfl) gR kR bR .nil pass0 (pa_cons (pv 7) (pa_cons (pv 6) pa_nil))))))
        (pss_cons (ps_set (i := 4) nd rfl (by first | exact .inl rfl | exact .inr rfl) (pe_op op_orNat (pv 4) (pe_call GR r1 (by rfl) gR kR bR .nil pass0 (pa_cons (pe_fld (pv 5) rfl) (pa_cons (pv 6) pa_nil)))))
        (pss_one (ps_set (i := 1) nd rfl (by first | exact .inl rfl | exact .inr rfl) (pe_op op_cat (pv 1) (pe_fld (pv 5) rfl)))))))))
      (pss_one (ps_ret (pe_make MM GM hr (by rfl) gM bM .nil pass0 (pa_cons (pv 1) (pa_cons (pe_op op_cat (pe_lst (pa_cons (pv 2) pa_nil)) (pv 3)) (pa_cons (pv 4) pa_nil))))))))))), ?_⟩
    refine ⟨Nat.zero_le _, fun c hcn => ?_⟩
    have sc := same_new (o := .lst []) hcn
    refine ⟨Nat.zero_le _, fun fo hfo => ?_⟩
    have sf := same_new (o := .lst []) hfo
    refine ⟨_, rfl, l, rfl, ⟨_, SqL.of ((sc.trans sf) _ _ hl)⟩, ?_⟩
    refine for_list (xs := refsP ps) (fun i σ H' => ∃ (acc : LNet) (c fo : Addr) (x5 x6 x7 : Option V), acc = ((netsP ps).take i).foldl sideStep side0 ∧ acc.Ok ∧ acc.chars.length = charsOf ((netsP ps).take i) ∧
      σ = [some (.ref l), some (.ref c), some (.int (acc.follow.getD 0 0 : Nat)), some (.ref fo), some (.int (acc.exits : Nat)), x5, x6, x7] ∧ H' c = some (.lst (strsV acc.chars)) ∧ H' fo = some (.lst (intsV (acc.follow.drop 1))) ∧ Same H H' ∧ H c = none) ?_ ?_ ?_ ?_
    · exact ⟨side0, c, fo, none, none, none, rfl, side0_ok, rfl, rfl, sf _ _ upd_same, upd_same, sc.trans sf, hcn⟩
    · rintro i σ H' _ ⟨_, _, _, _, _, _, _, _, _, _, _, _, sm, _⟩
      exact SqL.of (sm _ _ hl)
    · rintro i x σ H1 hx ⟨acc, c, fo, x5, x6, x7, ea, ok, len, rfl, hc1, hf1, sm, _⟩
      obtain ⟨p, hp, rfl⟩ : ∃ p, ps[i]? = some p ∧ x = .ref p.1 := by
        unfold refsP at hx
        rw [List.getElem?_map] at hx
        cases e : ps[i]? with
        | none =>
          rw [e] at hx
          cases hx
        | some p =>
          rw [e] at hx
          exact ⟨p, rfl, (Option.some.inj hx).symm⟩
      have mem : p ∈ ps := List.mem_of_getElem? hp
      obtain ⟨nat, nok⟩ := hn p mem
      have hnp : (netsP ps)[i]? = some p.2 := by
        unfold netsP
        rw [List.getElem?_map, hp]
        rfl
      have tot := charsOf_succ (netsP ps) hnp
      have le := charsOf_take (netsP ps) (i + 1)
      have small : acc.chars.length + p.2.chars.length ≤ 500 := by omega
      obtain ⟨a1, a2, a3, a4, a5⟩ := id ok
      obtain ⟨n1, n2, n3, n4, n5⟩ := id nok
      have nat1 := nat.same sm
      obtain ⟨dx, pc, pf, pd, q1, q2, q3, q4⟩ := nat1
      have wd : ∀ {x k : Nat}, k ≤ 1002 → x < 2 ^ k → x < 2 ^ 2000 := fun {x k} hk h => lt_mono h (by omega)
      have lenV : (strsV acc.chars).length = acc.chars.length := List.length_map _
      refine name_go ?_
      dsimp only
      refine seq_go (asg_go ?_)
      refine ⟨_, rfl, c, _, rfl, .inl (SqL.of hc1), ?_⟩
      rw [lenV]
      refine name_go ?_
      dsimp only
      refine seq_go (asg_go ?_)
      have g0 : atI (intsV p.2.follow) 0 = some (.int (p.2.follow.getD 0 0 : Nat)) := atI_nat (j := 0) (intsV_get (by omega))
      refine ⟨_, rfl, _, rfl, p.1, NC, dx, _, _, rfl, q1, T.cl, T.n2, lkF, pf, _, 0, _, rfl, rfl, SqL.of q3, g0, _, rfl, p.2.follow.getD 0 0, acc.chars.length, rfl, wd (k := p.2.chars.length + 1) (by omega) (getD_lt n3), by omega, _, _, rfl, rfl, ?_⟩
      refine name_go ?_
      dsimp only
      refine seq_go (asg_go ?_)
      have s2 := Same.refl H1
      refine ⟨_, rfl, _, rfl, p.1, NC, dx, _, _, rfl, q1, T.cl, T.n2, lkF, 1, rfl, pf, _, rfl, SqL.of q3, fun sl hsl => ?_⟩
      rw [cut_one, intsV_drop]
      have s3 := same_new (o := .lst (intsV (p.2.follow.drop 1))) hsl
      refine ⟨sl, rfl, ⟨_, SqL.of upd_same⟩, fun D2 hD2 => ?_⟩
      have sD2 := same_new (o := .lst []) hD2
      refine lc_it (n := (p.2.follow.drop 1).length) (by rw [← intsV_len (p.2.follow.drop 1)]; exact walk_list) (fun j H' => H' D2 = some (.lst (intsV (((p.2.follow.drop 1).take j).map fun x => ren x acc.chars.length))) ∧ Same (upd H1 sl (.lst (intsV (p.2.follow.drop 1)))) H') ⟨upd_same, sD2⟩ (fun j H' _ h => SqL.of (h.2 _ _ upd_same)) ?_ ?_
      · rintro j x H3 _ hj ⟨e4, s4⟩ ⟨rfl, hx2⟩
        rw [intsV_get hj] at hx2
        have ex := (Option.some.inj hx2).symm
        subst ex
        refine ⟨rfl, yes_keep ?_⟩
        refine ⟨_, rfl, _, rfl, _, acc.chars.length, rfl, wd (k := p.2.chars.length + 1) (by omega) (getD_lt fun x hx => n3 x (List.mem_of_mem_drop hx)), by omega, _, e4, ?_, ?_, fun b o zb => ?_⟩
        · rw [intsV_len, List.length_map, List.length_take]
          have h9 : (p.2.follow.drop 1).length = p.2.follow.length - 1 := List.length_drop
          exact small1000 (by omega)
        · rw [upd_same, List.take_add_one, List.getElem?_eq_getElem hj, List.map_append, ← intsV_app, List.getD_eq_getElem?_getD, List.getElem?_eq_getElem hj]
          rfl
        · rw [upd_ne (ne_of_none zb hD2)]
          exact s4 _ _ zb
      · rintro H3 ⟨e4, s4⟩
        rw [List.take_of_length_le (Nat.le_refl _)] at e4
        have h9 : (p.2.follow.drop 1).length = p.2.follow.length - 1 := List.length_drop
        have h8 : (acc.follow.drop 1).length = acc.follow.length - 1 := List.length_drop
        have s5 : Same H1 H3 := s3.trans s4
        refine ⟨fo, D2, _, _, rfl, rfl, s5 _ _ hf1, e4, ?_, fun fo2 hfo2 => ?_⟩
        · rw [intsV_len, intsV_len, List.length_map]
          exact line_small (by omega)
        rw [intsV_app]
        have ef2 : acc.follow.drop 1 ++ (p.2.follow.drop 1).map (fun x => ren x acc.chars.length) = (sideStep acc p.2).follow.drop 1 := rfl
        rw [ef2]
        have s6 := s5.trans (same_new (o := .lst (intsV ((sideStep acc p.2).follow.drop 1))) hfo2)
        refine name_go ?_
        dsimp only
        refine seq_go (asg_go ?_)
        refine ⟨_, rfl, _, rfl, p.1, NC, dx, _, _, rfl, s6 _ _ q1, T.cl, T.n3, lkE, _, rfl, p.2.exits, acc.chars.length, rfl, wd (k := p.2.chars.length + 1) (by omega) n4, by omega, _, _, rfl, rfl, ?_⟩
        refine name_go ?_
        dsimp only
        refine asg_go ?_
        refine ⟨_, rfl, _, rfl, p.1, NC, dx, _, _, rfl, s6 _ _ q1, T.cl, T.n1, lkC, c, pc, _, _, rfl, rfl, s6 _ _ hc1, s6 _ _ q2, ?_, fun c2 hc2 => ?_⟩
        · show (strsV acc.chars).length + (strsV p.2.chars).length ≤ sizeLine
          unfold strsV
          rw [List.length_map, List.length_map]
          exact line_small (by omega)
        have ec2 : strsV acc.chars ++ strsV p.2.chars = strsV (sideStep acc p.2).chars := by
          unfold strsV sideStep
          rw [List.map_append]
        rw [ec2]
        have s7 := same_new (o := .lst (strsV (sideStep acc p.2).chars)) hc2
        refine ⟨sideStep acc p.2, c2, fo2, _, _, _, ?_, sideStep_ok ok nok (by omega), ?_, rfl, upd_same, s7 _ _ upd_same, (sm.trans s6).trans s7, (sm.trans s6).free hc2⟩
        · rw [fold_take sideStep side0 (netsP ps) hnp, ← ea]
        · unfold sideStep
          rw [List.length_append]
          omega
    · rintro σ H1 ⟨acc, c, fo, x5, x6, x7, ea, ok, len, rfl, hc1, hf1, sm, z1⟩
      have lr : (refsP ps).length = (netsP ps).length := by unfold refsP netsP; rw [List.length_map, List.length_map]
      rw [lr, List.take_of_length_le (Nat.le_refl _)] at ea
      obtain ⟨a1, a2, a3, a4, a5⟩ := id ok
      refine ⟨_, rfl, _, rfl, line_small (by show 1 ≤ 16777216; decide), fun b hb => ?_⟩
      have sb := same_new (o := .lst [.int (acc.follow.getD 0 0 : Nat)]) hb
      have h8 : (acc.follow.drop 1).length = acc.follow.length - 1 := List.length_drop
      refine ⟨_, rfl, b, fo, _, _, rfl, rfl, upd_same, sb _ _ hf1, ?_, fun f2 hf2 => ?_⟩
      · rw [intsV_len]
        exact line_small (by show 1 + _ ≤ 16777216; omega)
      have ef : [V.int (acc.follow.getD 0 0 : Nat)] ++ intsV (acc.follow.drop 1) = intsV acc.follow := by
        cases e : acc.follow with
        | nil =>
          rw [e] at a1
          cases a1
        | cons x r => rfl
      rw [ef]
      have sf2 := same_new (o := .lst (intsV acc.follow)) hf2
      refine ⟨_, rfl, ?_⟩
      subst ea
      exact make_net (n := sideL (netsP ps)) ok (sf2 _ _ (sb _ _ hc1)) upd_same fun r H' s2 hr0 at_ => q r c f2 H' (((sm.trans sb).trans sf2).trans s2) (((sm.trans sb).trans sf2).free hr0) z1 ((sm.trans sb).free hf2) (at_.of ((sm.trans sb).trans sf2))
end
end K02

set_option autoImplicit false
set_option maxErrors 4
namespace K02
open PySem PySem.Spec PyProof.Rows L2 Tl
theorem addN_length (d : SN) (s : Str) (v : Nat) : (addN d s v).length ≤ d.length + 1 := putN_length _ _ _
theorem range_fold {β : Type} (f : β → Nat → β) (b : β) (n : Nat) : (List.range (n + 1)).foldl f b = f ((List.range n).foldl f b) n := by
  rw [List.range_succ, List.foldl_append]
  rfl
def byStT (cs : List Str) (i : Nat) : SN := (List.range i).foldl (fun d i => addN d (cs.getD i default) (1 <<< (1 + i))) []
theorem byStT_len (cs : List Str) : ∀ i, (byStT cs i).length ≤ i
  | 0 => Nat.le_refl _
  | i + 1 => by
    unfold byStT
    rw [range_fold]
    exact Nat.le_trans (addN_length _ _ _) (Nat.succ_le_succ (byStT_len cs i))
theorem bySt_eq (cs : List Str) : bySt cs = byStT cs cs.length := rfl
theorem spread_take (c : SN) (s : Str) (v : Nat) (j : Nat) (x : Nat) (h : s.cps[j]? = some x) : ((s.cps.toList.take (j + 1)).foldl (fun c n => addN c ⟨#[n]⟩ v) c) = addN ((s.cps.toList.take j).foldl (fun c n => addN c ⟨#[n]⟩ v) c) ⟨#[x]⟩ v := by
  rw [List.take_add_one, Array.getElem?_toList, h, List.foldl_append]
  rfl
theorem putN_keys {d : SN} {s : Str} {v : Nat} {p : Str × Nat} (h : p ∈ putN d s v) : p.1 = s ∨ ∃ x ∈ d, x.1 = p.1 := by
  unfold putN at h
  split at h
  · obtain ⟨x, hx, rfl⟩ := List.mem_map.mp h
    split
    · exact .inr ⟨x, hx, rfl⟩
    · exact .inr ⟨x, hx, rfl⟩
  · rcases List.mem_append.mp h with h | h
    · exact .inr ⟨p, h, rfl⟩
    · rw [List.mem_singleton.mp h]
      exact .inl rfl
theorem byStT_keys (cs : List Str) : ∀ i, i ≤ cs.length → ∀ p ∈ byStT cs i, p.1 ∈ cs
  | 0, _, p, h => by cases h
  | i + 1, hi, p, h => by
    unfold byStT at h
    rw [range_fold] at h
    rcases putN_keys h with e | ⟨x, hx, e⟩
    · rw [e, List.getD_eq_getElem?_getD, List.getElem?_eq_getElem (by omega)]
      exact List.getElem_mem _
    · rw [← e]
      exact byStT_keys cs i (by omega) x hx
section
variable {P : Program} {w : World} {K : PySem.W.Frag} {mg : Str → Option Value} {base : Heap} {NC : Addr}
def spPbc : Sp := fun vs H Q _ => ∃ (c : Addr) (cs : List Str), vs = [.ref c] ∧ H c = some (.lst (strsV cs)) ∧ cs.length ≤ 1000 ∧ (∀ s ∈ cs, s.cps.size ≤ 1000) ∧ ∀ d H', Same H H' → H d = none → H' d = some (.dK (standsFor cs)) → Q (.ref d) H'
set_option maxHeartbeats 20000000 in
theorem ok_pbc {f : Addr} {fd : FuncData} (F : FnP K "places_by_char" "places_by_char" s_places_by_char f fd) (N : Nms mg) : FnOk P w K mg base CX0 1 f fd ["chars"] spPbc := by
  have nd := sc_places_by_char.nd
  refine F.ok sc_places_by_char (fun vs H Q E h => ?_) (fun cdv A outer s H vs Q E hr h => ?_)
  · obtain ⟨c, cs, rfl, _⟩ := h
    rfl
  · obtain ⟨c, cs, rfl, hc, len, sz, q⟩ := h
    have hu : (A.deeper (envOfC "places_by_char" (defScope s_places_by_char) s.heap.objs.size f cdv)).units + 1 < cLine := by have := hr.un; omega
    refine ⟨_, PSs.nox (pss_cons (ps_set (i := 1) nd rfl (.inl rfl) pe_dnewK)
      (pss_cons (ps_for PassesOwn.never rfl (pi_enum (by rfl) N.enumerate (pa_cons (pv 0) pa_nil)) (pg_tup rfl (pgs_cons (pg_name (i := 2) nd rfl (.inl rfl) (.inr rfl)) (pgs_cons (pg_name (i := 3) nd rfl (.inl rfl) (.inr rfl)) pgs_nil)))
        (pss_one (ps_dput hu (pv 1) (pv 3) (pe_op op_orNat (pe_dget2 hu (pv 1) (pv 3) pe_int ⟨rfl, rfl, rfl, rfl⟩) (pe_op op_shlNat pe_int (pe_op op_addNat pe_int (pv 2)))) rfl)))
      (pss_cons (ps_set (i := 4) nd rfl (.inl rfl) pe_dnewK)
      (pss_cons (ps_lock (ps_for PassesOwn.never rfl (pi_items (pv 1)) (pg_tup rfl (pgs_cons (pg_name (i := 3) nd rfl (.inl rfl) (.inr rfl)) (pgs_cons (pg_name (i := 5) nd rfl (.inl rfl) (.inr rfl)) pgs_nil)))
        (pss_one (ps_for PassesOwn.never rfl (pi_str (pv 3)) (pg_name (i := 6) nd rfl (.inl rfl))
          (pss_one (ps_dput hu (pv 4) (pv 6) (pe_op op_orNat (pe_dget2 hu (pv 4) (pv 6) pe_int ⟨rfl, rfl, rfl, rfl⟩) (pv 5)) rfl))))))
      (pss_one (ps_ret (pv 4))))))), ?_⟩
    intro d hd
    have sd := same_new (o := .dK []) hd
    have wide : 1 < 2 ^ 4000 := Nat.lt_of_lt_of_le (show 1 < 2 ^ 1 by decide) (Nat.pow_le_pow_right (by decide) (by decide))
    have gv : ∀ (D : SN) (s : Str), (valV (kvsV D) (Sum.inr s)).getD (.int 0) = .int (((getN D s).getD 0 : Nat) : Int) := fun D s => by
      rw [kvsV_get]
      cases getN D s <;> rfl
    have lenV : (strsV cs).length = cs.length := List.length_map _
    have lenK : ∀ D : SN, (kvsV D).length = D.length := fun D => List.length_map _
    have getV : ∀ {j : Nat}, j < cs.length → (strsV cs)[j]? = some (.str (cs.getD j default)) := fun {j} hj => by
      unfold strsV
      rw [List.getElem?_map, List.getElem?_eq_getElem hj, List.getD_eq_getElem?_getD, List.getElem?_eq_getElem hj]
      rfl
    refine name_go ?_
    dsimp only
    refine seq_go ?_
    refine ⟨_, rfl, c, _, rfl, SqL.of (sd _ _ hc), ?_⟩
    refine for_it (n := cs.length) (by rw [← lenV]; exact walk_enum) (fun i σ H' => ∃ x2 x3 x4 x5 x6 : Option V, σ = [some (.ref c), some (.ref d), x2, x3, x4, x5, x6] ∧ H' d = some (.dK (kvsV (byStT cs i))) ∧ Same H H') ⟨none, none, none, none, none, rfl, upd_same, sd⟩ (fun i σ H' _ h => by
      obtain ⟨_, _, _, _, _, _, _, sm⟩ := h
      exact SqL.of (sm _ _ hc)) ?_ ?_
    · rintro i x σ H1 H2 hi ⟨x2, x3, x4, x5, x6, rfl, e, sm⟩ ⟨T3, y, z, rfl, hT, rfl, hy, hz⟩
      have ey : y = .int (i : Nat) := (Option.some.inj hy).symm
      have ez : z = .str (cs.getD i default) := by
        have hz2 : (strsV cs)[i]? = some z := hz
        rw [getV hi] at hz2
        exact (Option.some.inj hz2).symm
      subst ey ez
      have sT := same_new (o := .tup [.int (i : Nat), .str (cs.getD i default)]) hT
      have e1 := sT _ _ e
      refine ⟨T3, _, rfl, SqT.of upd_same, rfl, _, _, rfl, _, _, rfl, rfl, ?_⟩
      refine ⟨_, rfl, d, rfl, .inl ⟨_, .inl e1⟩, _, rfl, _, DGet.k (k := Sum.inr (cs.getD i default)) e1, ?_⟩
      rw [gv]
      refine ⟨_, rfl, 1, i, rfl, rfl, 1, 1 + i, rfl, rfl, wide, by omega, _, _, rfl, rfl, ?_⟩
      refine ⟨_, rfl, _, rfl, d, _, rfl, DPut.k (k := Sum.inr (cs.getD i default)) e1 ?_, ?_⟩
      · rw [lenK]
        exact small1000 (by have := byStT_len cs i; omega)
      rw [kvsV_put]
      refine ⟨_, _, _, _, _, rfl, ?_, fun b o zb => ?_⟩
      · rw [upd_same]
        unfold byStT
        rw [range_fold]
        rfl
      · have nb : b ≠ d := ne_of_none zb hd
        rw [upd_ne nb]
        exact sT _ _ (sm _ _ zb)
    · rintro σ H1 ⟨x2, x3, x4, x5, x6, rfl, e, sm⟩
      rw [← bySt_eq] at e
      have lb : (bySt cs).length ≤ 1000 := by
        rw [bySt_eq]
        exact Nat.le_trans (byStT_len cs _) len
      dsimp only
      refine seq_go (asg_go ?_)
      intro g hg
      have sg0 := same_new (o := .dK []) hg
      refine name_go ?_
      dsimp only
      have e2 := sg0 _ _ e
      have ngd : g ≠ d := fun z => by
        rw [z, e] at hg
        cases hg
      refine seq_go ⟨d, .dK (kvsV (bySt cs)), e2, True.intro, fun od => ?_⟩
      refine ⟨_, rfl, d, od, _, rfl, upd_same, ?_⟩
      have keys : ∀ p ∈ bySt cs, p.1.cps.size ≤ 1000 := fun p hp => sz _ (byStT_keys cs _ (Nat.le_refl _) p (by rw [← bySt_eq]; exact hp))
      generalize hbs : bySt cs = bs at e e2 lb keys
      have far : ∀ {b : Addr} {o : HO}, H b = some o → b ≠ d ∧ b ≠ g := fun {b o} zb => ⟨ne_of_none zb hd, ne_of_none (sm _ _ zb) hg⟩
      have lenB : (kvsV bs).length = bs.length := lenK _
      refine for_it (n := bs.length) (by rw [← lenB]; exact walk_items) (fun i σ H' => ∃ x2 x3 x5 x6 : Option V, σ = [some (.ref c), some (.ref d), x2, x3, some (.ref g), x5, x6] ∧ H' d = some (.frz od (.dK (kvsV bs))) ∧ H' g = some (.dK (kvsV ((bs.take i).foldl (fun c p => spread c p.1 p.2) []))) ∧
        ((bs.take i).foldl (fun c p => spread c p.1 p.2) ([] : SN)).length ≤ i * 1000 ∧ ∀ b o, H b = some o → H' b = some o) ⟨_, _, _, _, rfl, upd_same, by rw [upd_ne ngd, upd_same]; rfl, Nat.zero_le _, fun b o zb => by rw [upd_ne (far zb).1]; exact sg0 _ _ (sm _ _ zb)⟩ (fun i σ H' _ h => by
          obtain ⟨_, _, _, _, _, z, _⟩ := h
          exact z) ?_ ?_
      · rintro i x σ H2 H3 hi ⟨x2, x3, x5, x6, rfl, ed, eg, lg, kp⟩ ⟨T3, y, z, rfl, hT, rfl, hy, hz⟩
        have hp : (kvsV bs)[i]? = some (Sum.inr bs[i].1, .int (bs[i].2 : Nat)) := by
          unfold kvsV
          rw [List.getElem?_map, List.getElem?_eq_getElem hi]
          rfl
        have ey : y = .str bs[i].1 := by
          have hy2 : (kvsV bs)[i]?.map (fun kv => kV kv.1) = some y := hy
          rw [hp] at hy2
          exact (Option.some.inj hy2).symm
        have ez : z = .int (bs[i].2 : Nat) := by
          have hz2 : (kvsV bs)[i]?.map Prod.snd = some z := hz
          rw [hp] at hz2
          exact (Option.some.inj hz2).symm
        subst ey ez
        have sT := same_new (o := .tup [.str bs[i].1, .int (bs[i].2 : Nat)]) hT
        generalize hc0 : (bs.take i).foldl (fun c p => spread c p.1 p.2) ([] : SN) = c0 at eg lg
        have step : (bs.take (i + 1)).foldl (fun c p => spread c p.1 p.2) ([] : SN) = spread c0 bs[i].1 bs[i].2 := by
          rw [fold_take (fun c p => spread c p.1 p.2) [] bs (List.getElem?_eq_getElem hi), hc0]
        have sb : bs[i].1.cps.size ≤ 1000 := keys _ (List.getElem_mem _)
        refine ⟨T3, _, rfl, SqT.of upd_same, rfl, _, _, rfl, _, _, rfl, rfl, ?_⟩
        refine ⟨_, rfl, _, rfl, ?_⟩
        refine for_it (n := bs[i].1.cps.size) walk_str (fun j σ H' => ∃ x2 x6 : Option V, σ = [some (.ref c), some (.ref d), x2, some (.str bs[i].1), some (.ref g), some (.int (bs[i].2 : Nat)), x6] ∧ H' d = some (.frz od (.dK (kvsV bs))) ∧
          H' g = some (.dK (kvsV ((bs[i].1.cps.toList.take j).foldl (fun c n => addN c ⟨#[n]⟩ bs[i].2) c0))) ∧ ((bs[i].1.cps.toList.take j).foldl (fun c n => addN c ⟨#[n]⟩ bs[i].2) c0).length ≤ i * 1000 + j ∧ ∀ b o, H b = some o → H' b = some o)
          ⟨_, _, rfl, sT _ _ ed, sT _ _ eg, by simpa using lg, fun b o zb => sT _ _ (kp b o zb)⟩ (fun _ _ _ _ _ => True.intro) ?_ ?_
        · rintro j x σ H4 H5 hj ⟨y2, y6, rfl, fd4, fg4, lg4, kp4⟩ ⟨rfl, ch, hch, rfl⟩
          have ngd2 : g ≠ d := ngd
          refine ⟨_, rfl, g, rfl, .inl ⟨_, .inl fg4⟩, _, rfl, _, DGet.k (k := Sum.inr ⟨#[ch]⟩) fg4, ?_⟩
          rw [gv]
          refine ⟨_, rfl, _, _, rfl, rfl, _, rfl, _, rfl, g, _, rfl, DPut.k (k := Sum.inr ⟨#[ch]⟩) fg4 ?_, ?_⟩
          · rw [lenK]
            have : i * 1000 ≤ 1000 * 1000 := Nat.mul_le_mul_right _ (by omega)
            rw [sizeLine_eq]
            omega
          rw [kvsV_put]
          refine ⟨_, _, rfl, ?_, ?_, ?_, fun b o zb => ?_⟩
          · rw [upd_ne ngd2.symm]
            exact fd4
          · rw [upd_same, spread_take c0 bs[i].1 bs[i].2 j ch hch]
            rfl
          · rw [spread_take c0 bs[i].1 bs[i].2 j ch hch]
            have := addN_length ((bs[i].1.cps.toList.take j).foldl (fun c n => addN c ⟨#[n]⟩ bs[i].2) c0) ⟨#[ch]⟩ bs[i].2
            omega
          · rw [upd_ne (far zb).2]
            exact kp4 b o zb
        · rintro σ H4 ⟨y2, y6, rfl, fd4, fg4, lg4, kp4⟩
          have tk : bs[i].1.cps.toList.take bs[i].1.cps.size = bs[i].1.cps.toList := List.take_of_length_le (by simp)
          rw [tk] at fg4 lg4
          have sp : bs[i].1.cps.toList.foldl (fun c n => addN c ⟨#[n]⟩ bs[i].2) c0 = spread c0 bs[i].1 bs[i].2 := rfl
          rw [sp] at fg4 lg4
          refine ⟨_, _, _, _, rfl, fd4, ?_, ?_, kp4⟩
          · rw [step]
            exact fg4
          · rw [step]
            omega
      · rintro σ H2 ⟨x2, x3, x5, x6, rfl, ed, eg, lg, kp⟩
        rw [List.take_of_length_le (Nat.le_refl _)] at eg
        refine ⟨ed, _, rfl, ?_⟩
        refine q g _ (fun b o zb => ?_) (sm.free hg) ?_
        · rw [upd_ne (far zb).1]
          exact kp b o zb
        · rw [upd_ne ngd, eg]
          unfold standsFor byCh
          rw [hbs]
end
end K02

set_option autoImplicit false
set_option maxErrors 4
namespace K02
open PySem PySem.Spec PyProof.Rows L2 Tl
theorem lk_nil {f : Str} : ([] : List (Str × V)).lookup f = none := rfl
section
variable {P : Program} {w : World} {K : PySem.W.Frag} {mg : Str → Option Value} {base : Heap} {NC : Addr}
theorem ok_net_init {f : Addr} {fd : FuncData} (F : FnP K "__init__" "Net.__init__" s_Net_init_ f fd) (T : NetC K NC) (M : Mk K NC f) (gM : mg "Net" = some (.ref NC)) (b : Binds K fd ["self", "chars", "follow", "exits"] [])
    (B : Can P w K mg base CX0 "places_by_char" ["chars"] 1 spPbc) : CanNet P w K mg base NC 2 := by
  obtain ⟨fB, fdB, GB, gB, kB, bB⟩ := B
  have nd := sc_Net_init_.nd
  refine ⟨f, fd, M, gM, b, F.ok sc_Net_init_ (fun vs H Q E h => ?_) (fun cdv A outer s H vs Q E hr h => ?_)⟩
  · obtain ⟨p, dx, c, f, n, rfl, _⟩ := h
    rfl
  · obtain ⟨p, dx, c, f, n, rfl, ok, hp, hc, hf, q⟩ := h
    refine ⟨_, PSs.nox (pss_cons (ps_fld (pv 0) (pv 1) rfl) (pss_cons (ps_fld (pv 0) (pv 2) rfl) (pss_cons (ps_fld (pv 0) (pv 3) rfl) (pss_one (ps_fld (pv 0) (pe_call GB (hr.mono (by decide)) (by rfl) gB kB bB .nil pass0 (pa_cons (pv 1) pa_nil)) rfl))))), ?_⟩
    have npc : p ≠ c := fun z => by rw [z, hc] at hp; cases hp
    have npf : p ≠ f := fun z => by rw [z, hf] at hp; cases hp
    have far : ∀ {b : Addr} {o u : HO}, H b = some o → b ≠ p → (upd H p u) b = some o := fun {b o u} z nb => by
      rw [upd_ne nb]
      exact z
    refine ⟨_, rfl, _, rfl, p, NC, dx, _, rfl, hp, T.cl, T.n1, (by show 0 < 1000; decide), ?_⟩
    refine ⟨_, rfl, _, rfl, p, NC, dx, _, rfl, upd_same, T.cl, T.n2, (by show 1 < 1000; decide), ?_⟩
    rw [upd_upd]
    refine ⟨_, rfl, _, rfl, p, NC, dx, _, rfl, upd_same, T.cl, T.n3, (by show 2 < 1000; decide), ?_⟩
    rw [upd_upd]
    obtain ⟨a1, a2, a3, a4, a5⟩ := ok
    refine ⟨_, rfl, c, n.chars, rfl, far hc npc.symm, a2, a5, fun d H' sm hd ed => ?_⟩
    have e1 := sm _ _ upd_same
    have ndp : d ≠ p := fun z => by rw [z, upd_same] at hd; cases hd
    refine ⟨_, rfl, p, NC, dx, _, rfl, e1, T.cl, T.n4, (by show 3 < 1000; decide), ?_⟩
    refine q _ (fun x o e nx => ?_) ⟨dx, d, by rw [upd_ne ndp] at hd; exact hd, ?_, ?_, ?_, ?_⟩
    · rw [upd_ne nx]
      exact sm _ _ (far e nx)
    · rw [upd_same]
      rfl
    · rw [upd_ne npc.symm]
      exact sm _ _ (far hc npc.symm)
    · rw [upd_ne npf.symm]
      exact sm _ _ (far hf npf.symm)
    · rw [upd_ne ndp]
      exact ed
end
end K02

set_option autoImplicit false
set_option maxErrors 4
/-! A dict of True's whose keys are nested tuples: what {k: True for ..} and tuple(d) make of it. -/
namespace Tl
open PySem PySem.Spec PyProof.Rows L2
mutual
/-- v is the key k, by the tracked tuples -/
inductive NkV (H : Hp) : NestedKey → V → Prop
  | non : NkV H .none .non
  | int (i : Int) : NkV H (.num i) (.int i)
  | str (x : Str) : NkV H (.text x) (.str x)
  | tup {a : Addr} {vs : List V} {ks : List NestedKey} : H a = some (.tup vs) → NkAll H ks vs → NkV H (.tup ks) (.ref a)
inductive NkAll (H : Hp) : List NestedKey → List V → Prop
  | nil : NkAll H [] []
  | cons {k : NestedKey} {v : V} {ks : List NestedKey} {vs : List V} : NkV H k v → NkAll H ks vs → NkAll H (k :: ks) (v :: vs)
end
section
variable {P : Program} {w : World} {H H' : Hp} {h : Heap}
mutual
theorem NkV.is (ok : HOk P w H h) : ∀ (k : NestedKey) (v : V) (u : Value), NkV H k v → RelV v u → NestedIs h k u
  | .none, _, _, x, r => by
    cases x
    cases r
    exact .none
  | .num i, _, _, x, r => by
    cases x
    obtain ⟨t, rfl⟩ := r
    exact .int i t
  | .text z, _, _, x, r => by
    cases x
    obtain ⟨t, rfl⟩ := r
    exact .text z t
  | .tup ks, _, _, x, r => by
    cases x with
    | tup e al =>
      cases r
      obtain ⟨_, its, rel, o, g, c, n, d⟩ := ok _ _ e
      exact .tup g c d (by simpa using NkAll.is ok ks _ its al rel)
theorem NkAll.is (ok : HOk P w H h) : ∀ (ks : List NestedKey) (vs : List V) (us : List Value), NkAll H ks vs → Vals vs us → NestedAll h ks us
  | [], _, _, x, r => by
    cases x
    cases r
    exact .nil
  | k :: ks, _, _, x, r => by
    cases x with
    | cons x1 x2 =>
      cases r with
      | cons r1 r2 => exact .cons (NkV.is ok k _ _ x1 r1) (NkAll.is ok ks _ _ x2 r2)
end
mutual
theorem NkV.same (s : Same H H') : ∀ (k : NestedKey) (v : V), NkV H k v → NkV H' k v
  | .none, _, x => by cases x; exact .non
  | .num i, _, x => by cases x; exact .int i
  | .text z, _, x => by cases x; exact .str z
  | .tup ks, _, x => by
    cases x with
    | tup e al => exact .tup (s _ _ e) (NkAll.same s ks _ al)
theorem NkAll.same (s : Same H H') : ∀ (ks : List NestedKey) (vs : List V), NkAll H ks vs → NkAll H' ks vs
  | [], _, x => by cases x; exact .nil
  | k :: ks, _, x => by
    cases x with
    | cons x1 x2 => exact .cons (NkV.same s k _ x1) (NkAll.same s ks _ x2)
end
end
abbrev Ks := List (NestedKey × Addr)
def rowsO (ks : Ks) : List (NestedKey × Addr × Value) := ks.map fun x => (x.1, x.2, .bool true)
/-- the dict at D: the keys in order, each with True -/
def ordO (P : Program) (w : World) (D : Addr) (ks : Ks) : HO := .ext fun h => ks.length ≤ sizeLine ∧ (D == sysModules) = false ∧ (ks.map (·.1)).Nodup ∧ ∃ o es ep, h.get? D = some o ∧ o.ExactDict ∧ o.data = .dict es ep ∧ es.toList = (rowsO ks).map (entryOfKey (nestedKind P w))
def putO (ks : Ks) (k : NestedKey) (a : Addr) : Ks := if k ∈ ks.map (·.1) then ks else ks ++ [(k, a)]
/-- the keys stand where they are said to stand -/
def KeysAt (H : Hp) (ks : Ks) : Prop := ∀ x ∈ ks, x.1.depth ≤ 8 ∧ NkV H x.1 (.ref x.2)
theorem KeysAt.same {H H' : Hp} {ks : Ks} (k : KeysAt H ks) (s : Same H H') : KeysAt H' ks := fun x hx => ⟨(k x hx).1, (k x hx).2.same s⟩
theorem KeysAt.put {H : Hp} {ks : Ks} {k : NestedKey} {a : Addr} (h : KeysAt H ks) (d : k.depth ≤ 8) (v : NkV H k (.ref a)) : KeysAt H (putO ks k a) := by
  unfold putO
  split
  · exact h
  · intro x hx
    rcases List.mem_append.mp hx with hx | hx
    · exact h x hx
    · rw [List.mem_singleton.mp hx]
      exact ⟨d, v⟩
theorem putO_nodup {ks : Ks} {k : NestedKey} {a : Addr} (h : (ks.map (·.1)).Nodup) : ((putO ks k a).map (·.1)).Nodup := by
  unfold putO
  split
  · exact h
  · rename_i n
    rw [List.map_append, List.nodup_append]
    refine ⟨h, by simp, fun x hx y hy e => ?_⟩
    simp only [List.map_cons, List.map_nil, List.mem_singleton] at hy
    subst hy e
    exact n hx
theorem putO_length (ks : Ks) (k : NestedKey) (a : Addr) : (putO ks k a).length ≤ ks.length + 1 := by
  unfold putO
  split <;> simp
theorem rowsO_put (ks : Ks) (k : NestedKey) (a : Addr) : storedH (rowsO ks) k a (.bool true) = rowsO (putO ks k a) := by
  have look : (atKey (rowsO ks) k).isSome = decide (k ∈ ks.map (·.1)) := by
    unfold rowsO
    induction ks with
    | nil => rfl
    | cons x r ih =>
      by_cases e : x.1 = k
      · simp [atKey, e]
      · have e2 : ¬ k = x.1 := fun z => e z.symm
        have m : decide (k ∈ (x :: r).map (·.1)) = decide (k ∈ r.map (·.1)) := by
          rw [decide_eq_decide, List.map_cons, List.mem_cons]
          exact ⟨fun z => z.resolve_left e2, .inr⟩
        rw [m, ← ih]
        simp [atKey, e]
  have keep : (rowsO ks).map (putAt k (.bool true)) = rowsO ks := by
    unfold rowsO
    rw [List.map_map]
    refine List.map_congr_left fun x _ => ?_
    by_cases e : x.1 = k <;> simp [putAt, e]
  unfold storedH putO
  rw [look]
  by_cases m : k ∈ ks.map (·.1)
  · rw [if_pos (decide_eq_true m), if_pos m, keep]
  · rw [if_neg (by simpa using m), if_neg m]
    unfold rowsO
    rw [List.map_append]
    rfl
section
variable {P : Program} {w : World} {H : Hp} {h : Heap} {D : Addr} {ks : Ks}
theorem ordO_ok (z : ks.length ≤ sizeLine) (nd : (D == sysModules) = false) (dis : (ks.map (·.1)).Nodup) (x : ∃ o es ep, h.get? D = some o ∧ o.ExactDict ∧ o.data = .dict es ep ∧ es.toList = (rowsO ks).map (entryOfKey (nestedKind P w))) : ObjOk P w H h D (ordO P w D ks) := by
  obtain ⟨o, es, ep, g, r⟩ := id x
  exact ⟨⟨z, nd, dis, x⟩, ⟨o, g⟩, fun h1 h2 y k => by
    obtain ⟨z, nd, dis, o, es, ep, g, r⟩ := y
    exact ⟨z, nd, dis, o, es, ep, k _ g, r⟩⟩
theorem ordO_new (hp : Heap) (hb : sysModules < hp.objs.size) : ObjOk P w H (hp.push { cls := .type "dict", data := .dict #[] }) hp.objs.size (ordO P w hp.objs.size []) :=
  ordO_ok (Nat.zero_le _) (beq_eq_false_iff_ne.mpr (Ne.symm (Nat.ne_of_lt hb))) List.nodup_nil ⟨_, #[], 0, Heap.get?_push_size _ rfl, ⟨rfl, rfl, rfl⟩, rfl, rfl⟩
theorem ordO_at (ok : HOk P w H h) (e : H D = some (ordO P w D ks)) : ks.length ≤ sizeLine ∧ (D == sysModules) = false ∧ (ks.map (·.1)).Nodup ∧ ∃ o es ep, h.get? D = some o ∧ o.ExactDict ∧ o.data = .dict es ep ∧ es.toList = (rowsO ks).map (entryOfKey (nestedKind P w)) := by
  have x : ObjOk P w H h D (ordO P w D ks) := ok D _ e
  exact x.1
theorem ordO_keyed (ok : HOk P w H h) (e : H D = some (ordO P w D ks)) (at_ : KeysAt H ks) : h.DictOfH (nestedKind P w) D (rowsO ks) := by
  obtain ⟨_, _, dis, o, es, ep, g, c, d, l⟩ := ordO_at ok e
  refine ⟨o, es, ep, g, c, d, l, fun x hx => ?_, by unfold rowsO; rw [List.map_map]; exact dis⟩
  obtain ⟨y, hy, rfl⟩ := List.mem_map.mp hx
  exact ⟨(at_ y hy).2.is ok _ _ _ rfl, (at_ y hy).1⟩
end
/-- d[k] = True by a comprehension -/
theorem put_ord {X : Cx} {pins : List (Addr × Obj)} {σ : L2.St} {H : Hp} {s : Shared} {E : Value → Shared → Prop} {D a : Addr} {ks : Ks} {k : NestedKey} {Q : Unit → Shared → Prop} (hu : X.A.units + 8 < cLine) (I : Inv X pins σ H s) (e : H D = some (ordO X.prog X.w D ks)) (at_ : KeysAt H ks)
    (small : ks.length < sizeLine) (dp : k.depth ≤ 8) (hk : NkV H k (.ref a)) (h : ∀ s', Inv X pins σ (upd H D (ordO X.prog X.w D (putO ks k a))) s' → Q () s') : wpAny (model X.prog X.w) X.A (dictSet D (.ref a) (.bool true)) Q E s := by
  obtain ⟨_, nd, dis, _⟩ := ordO_at I.hok e
  have len : (rowsO ks).length ≤ sizeLine := by
    unfold rowsO
    rw [List.length_map]
    exact Nat.le_of_lt small
  refine wpAny_dictSet_heap (knd := nestedKind X.prog X.w) (hsz := len) hu ⟨hk.is I.hok _ _ _ rfl, dp⟩ (ordO_keyed I.hok e at_) fun h' dd sb => h _ ?_
  rw [rowsO_put] at dd
  obtain ⟨o, es, ep, g, c, d, l, _, _⟩ := dd
  exact d_write I (by rw [e]; exact True.intro) sb ⟨o, g⟩ (ordO_ok (Nat.le_trans (putO_length ks k a) small) nd (putO_nodup dis) ⟨o, es, ep, g, c, d, l⟩)
end Tl

set_option autoImplicit false
set_option maxErrors 4
/-! {k: True for target in iter if ..}, k a tuple, nested. -/
namespace Tl
open PySem PySem.Spec PyProof.Rows L2
section
variable {X : Cx}
/-- one turn: the target is bound, the tests asked, the key and the True made, the key put -/
def ordTurn (P : Program) (w : World) (g : TG) (tt : TT) (tk tv : TE) (vs : List Nat) (σ : L2.St) (D : Addr) (Nx : Hp → Prop) (x : V) (H : Hp) : Prop := g x (wipe σ vs) H fun σ2 H2 => wipe σ2 vs = wipe σ vs ∧ tt σ2 H2 fun b H3 =>
  if b = true then tk σ2 H3 fun y H4 => tv σ2 H4 fun z H5 => ∃ (ks : Ks) (k : NestedKey) (a : Addr), y = .ref a ∧ z = .bl true ∧ H5 D = some (ordO P w D ks) ∧ ks.length < sizeLine ∧ k.depth ≤ 8 ∧ NkV H5 k (.ref a) ∧ KeysAt H5 ks ∧ Nx (upd H5 D (ordO P w D (putO ks k a))) else Nx H3
def tOrd (P : Program) (w : World) (wi : TI) (g : TG) (tt : TT) (tk tv : TE) (vs : List Nat) : TE := fun σ H Q => wi σ H fun J H1 => ∀ D, H1 D = none → ∃ W : Nat → Nat → Hp → Prop, (∃ m, W 0 m (upd H1 D (ordO P w D []))) ∧
  ∀ i m H2, W i m H2 → (J.stop i H2 ∧ Q (.ref D) H2) ∨ (J.go i H2 ∧ ∃ Nx : Hp → Prop, (∀ H3, Nx H3 → ∃ j, j < m ∧ W (i + 1) j H3) ∧ ∀ x H3, J.yld i H2 x H3 → ordTurn P w g tt tk tv vs σ D Nx x H3)
theorem ord_core {pins : List (Addr × Obj)} {s : Shared} {σ : L2.St} {H : Hp} {Q : VK} {kx vx tg iter : Expr} {ifs : List Expr} {scope : Scope} {own : List (Str × Nat)} {pos pos' : Pos} {wi : TI} {g : TG} {tt : TT} {tk tv : TE} {use : Option (Value → Sem Unit)} {Qf : Value → Shared → Prop}
    (calm : X.calm = true) (hu : X.A.units + 8 < cLine) (nd : X.N.Nodup) (I : Inv X pins σ H s) (it : PI X tg iter wi) (bo : BlkOk X.N X.env.scope scope own)
    (pg : ∀ (s : Shared) (H : Hp) (C : Addr) (cl : List (Str × Addr)) (fp : List Addr), PG (X.blk s H scope (compEnvC scope cl C X.env) fp) tg g) (pt : ∀ (s : Shared) (H : Hp) (C : Addr) (cl : List (Str × Addr)) (fp : List Addr), PTs (X.blk s H scope (compEnvC scope cl C X.env) fp) ifs tt)
    (pk : ∀ (s : Shared) (H : Hp) (C : Addr) (cl : List (Str × Addr)) (fp : List Addr), PE (X.blk s H scope (compEnvC scope cl C X.env) fp) kx tk)
    (pv : ∀ (s : Shared) (H : Hp) (C : Addr) (cl : List (Str × Addr)) (fp : List Addr), PE (X.blk s H scope (compEnvC scope cl C X.env) fp) vx tv) (fold : ∀ x, foldedSetIterable iter X.env x = pure x)
    (asked : tOrd X.prog X.w wi g tt tk tv (own.map (·.2)) σ H Q)
    (ends : ∀ D C s' m H', Inv X pins σ H' s' → Q (.ref D) H' → s'.heap.Ns C m → FpOk X pins H' C → compPost (model X.prog X.w) X.A X.xe use Qf (.ref D) C (.ok .next) s') :
    wpAny (model X.prog X.w) X.A (comprehension (.DictComp kx vx [⟨tg, iter, ifs, 0⟩] scope pos) scope X.env pos' newDict false (eval iter X.env) use) Qf X.xe s := by
  have clo : ∀ y ∈ scope.names, y.2 = .free → ∃ c, X.env.cells.lookup y.1 = some c := fun y hy e => (bo.free y hy e).elim (fun z => I.ok.has _ (.inl z)) fun z => I.ok.has _ (.inr z)
  refine wpAny_comprehension_free (use := use) rfl fold (closure_ok clo) bo.kind (fun y hy e => by rw [bo.uniq y hy, e]) (thn (it.run pins s σ H _ I asked) fun src sa ha => thn ha fun iv sb hb => ?_)
  obtain ⟨ita, fp, tn, J, Hb, rfl, Ib, T, at0, fpok, wish⟩ := hb
  refine wpAny_newObj_type (newEnv_comp ?_)
  -- the new dict
  generalize eD : sb.heap.objs.size = D
  obtain ⟨W, ⟨m0, w0⟩, turns⟩ := wish D (Ib.hok.fresh (Nat.le_of_eq eD))
  have lay : Inv X pins σ (upd Hb D (ordO X.prog X.w D [])) { sb with heap := sb.heap.push { cls := .type "dict", data := .dict #[] } } := by
    subst eD
    exact Ib.laid (t' := sb.toks) (fun b o e => Heap.get?_push_of_some _ e) (Nat.le_refl _) (ordO_new sb.heap Ib.big)
  have old : ∀ b ∈ fp, b < sb.heap.objs.size := fun b hb => by
    obtain ⟨o, e, _⟩ := T.obj _ _ at0 b hb
    exact Heap.lt_size e
  generalize eHc : upd Hb D (ordO X.prog X.w D []) = Hc at lay w0
  have fpc : ∀ b ∈ fp, FpOk X pins Hc b ∧ b < (sb.heap.push { cls := .type "dict", data := .dict #[] }).objs.size := fun b hb => by
    have lt := old b hb
    refine ⟨⟨?_, (fpok b hb).2⟩, Nat.lt_trans lt (by rw [Heap.size_push]; exact Nat.lt_succ_self _)⟩
    rw [← eHc, upd_ne (by rw [← eD]; exact Nat.ne_of_lt lt)]
    exact (fpok b hb).1
  have tnc : tn 0 (sb.heap.push { cls := .type "dict", data := .dict #[] }) := T.keep _ _ _ at0 fun b _ o e => Heap.get?_push_of_some _ e
  generalize esc : ({ sb with heap := sb.heap.push { cls := .type "dict", data := .dict #[] } } : Shared) = sc at lay
  have hsc : sb.heap.push { cls := .type "dict", data := .dict #[] } = sc.heap := by rw [← esc]
  rw [hsc] at fpc tnc
  have start := block_start lay bo nd fpc
  have kg := pg sc Hc sc.heap.objs.size (cellsFrom (sc.heap.objs.size + 1) scope.names (cloFrom X.env.cells scope.names [])) fp
  have kt := pt sc Hc sc.heap.objs.size (cellsFrom (sc.heap.objs.size + 1) scope.names (cloFrom X.env.cells scope.names [])) fp
  have kk := pk sc Hc sc.heap.objs.size (cellsFrom (sc.heap.objs.size + 1) scope.names (cloFrom X.env.cells scope.names [])) fp
  have kv := pv sc Hc sc.heap.objs.size (cellsFrom (sc.heap.objs.size + 1) scope.names (cloFrom X.env.cells scope.names [])) fp
  show codeAny _ _ (.compStart (.DictComp kx vx [⟨tg, iter, ifs, 0⟩] scope pos) 0 (.ref ita) (.ref D) (compEnvC scope (cellsFrom (sc.heap.objs.size + 1) scope.names (cloFrom X.env.cells scope.names [])) sc.heap.objs.size X.env)) (compPost (model X.prog X.w) X.A X.xe use Qf (.ref D) sc.heap.objs.size)
    { sc with heap := pushCells (sc.heap.push { cls := .type "dict", data := .dict #[] }) scope.names }
  generalize ece : compEnvC scope (cellsFrom (sc.heap.objs.size + 1) scope.names (cloFrom X.env.cells scope.names [])) sc.heap.objs.size X.env = ce at start kg kt kk kv ⊢
  have lc : ce.locals = sc.heap.objs.size := by rw [← ece]; rfl
  have tnd : tn 0 (pushCells (sc.heap.push { cls := .type "dict", data := .dict #[] }) scope.names) := T.keep _ _ _ tnc fun b _ o e => pushCells_keeps _ _ _ _ (Heap.get?_push_of_some _ e)
  generalize ese : ({ sc with heap := pushCells (sc.heap.push { cls := .type "dict", data := .dict #[] }) scope.names } : Shared) = se at start ⊢
  have tne : tn 0 se.heap := by rw [← ese]; exact tnd
  have still : ∀ {σ' : L2.St} {H' : Hp} {s' : Shared}, Inv (X.blk sc Hc scope ce fp) [] σ' H' s' → (∀ b ∈ fp, H' b = none) → ∀ b ∈ fp, FpOk (X.blk sc Hc scope ce fp) [] H' b := by
    intro σ' H' s' I' n b hb
    exact ⟨n b hb, (I'.ok.exf b hb).1, I'.ok.exfs b hb, .inl hb, fun x c e => (I'.ok.exf b hb).2 x c e, fun q hq => absurd (show q ∈ ([] : List (Addr × Obj)) ++ [] from hq) (by simp)⟩
  have loop : codeAny (model X.prog X.w) X.A (.compLoop (.DictComp kx vx [⟨tg, iter, ifs, 0⟩] scope pos) 0 (.ref ita) (.ref D) ce) (compPost (model X.prog X.w) X.A X.xe use Qf (.ref D) sc.heap.objs.size) se := by
    refine compLoop_anyD (fun m s' => ∃ i H', Inv (X.blk sc Hc scope ce fp) [] (wipe σ (own.map (·.2))) H' s' ∧ tn i s'.heap ∧ (∀ b ∈ fp, H' b = none) ∧ W i m H') ?_ m0 ⟨0, Hc, start, tne, fun b hb => (fpc b hb).1.1, w0⟩
    rintro m sf ⟨i, Hf, If, tf, nf, wf⟩
    rcases turns i m Hf wf with ⟨stop, fin⟩ | ⟨go, Nx, less, turn⟩
    · refine thnF (T.done (X.blk sc Hc scope ce fp) rfl rfl rfl calm i [] sf _ Hf (fun _ _ => False) If (still If nf) tf stop) fun r sg ⟨hr, Ig⟩ => ?_
      subst hr
      have back : Inv X pins σ Hf sg := lay.call' (ch := fp) Ig.os Ig.base Ig.hok Ig.bare fun b hb => by
        obtain ⟨⟨_, q1, _, q3, q4, q5⟩, _⟩ := fpc b hb
        exact ⟨q3, q1, q4, q5⟩
      have free : Hf sc.heap.objs.size = none := by rw [← lc]; exact Ig.free
      obtain ⟨mL, ns, _⟩ := Ig.loc
      exact ends D sc.heap.objs.size sg mL Hf back fin (by rw [← lc]; exact ns) (lay.fpOk (Nat.le_refl _) free)
    · refine thnF (T.item (X.blk sc Hc scope ce fp) rfl rfl rfl calm i [] sf _ Hf (fun _ _ => False) If (still If nf) tf go) fun r sg ⟨u, hr, hg⟩ => ?_
      subst hr
      refine thnF hg fun _ sh ⟨x, Hh, Ih, rx, yl, th, nh⟩ => ?_
      have Ip := Ih.pinned (still Ih nh) (T.obj _ _ th)
      refine thnF (kg.run _ sh _ Hh x u _ Ip rx (turn x Hh yl)) fun _ si ⟨σi, Hi, Ii, wi2, qi⟩ => ?_
      refine thnF (kt.run _ si σi Hi _ Ii qi) fun b sj ⟨Hj, Ij, qj⟩ => ?_
      have closeTurn : ∀ {s' : Shared} {H' : Hp}, Inv (X.blk sc Hc scope ce fp) ([] ++ pinsAt fp sh.heap) σi H' s' → Nx H' →
          ∃ j, j < m ∧ ∃ i' H2, Inv (X.blk sc Hc scope ce fp) [] (wipe σ (own.map (·.2))) H2 s' ∧ tn i' s'.heap ∧ (∀ b ∈ fp, H2 b = none) ∧ W i' j H2 := by
        intro s' H' I' nx
        obtain ⟨j, lt, wj⟩ := less H' nx
        have stay : ∀ b ∈ fp, ∀ o, sh.heap.get? b = some o → s'.heap.get? b = some o ∧ H' b = none := fun b hb o e => by
          have z := I'.pin (b, o) (List.mem_append_right _ (List.mem_append_right _ (mem_pinsAt hb e)))
          exact ⟨z.1, z.2.1⟩
        refine ⟨j, lt, i + 1, H', (I'.unpinned (pins := [])).weak (by rw [← wi2, wipe_length]) (fun n v e => ?_), T.keep _ _ _ th fun b hb o e => (stay b hb o e).1, fun b hb => ?_, wj⟩
        · rw [← wi2] at e
          exact (wipe_some e).1
        · obtain ⟨o, e, _⟩ := T.obj _ _ th b hb
          exact (stay b hb o e).2
      cases b with
      | false =>
        rw [if_neg Bool.false_ne_true] at qj ⊢
        exact closeTurn Ij qj
      | true =>
        rw [if_pos rfl] at qj ⊢
        refine thnF (kk.run _ sj σi Hj _ Ij qj) fun ku sk ⟨ky, Hk, Ik, rk, qk⟩ => ?_
        refine thnF (kv.run _ sk σi Hk _ Ik qk) fun vu sl ⟨vy, Hl, Il, rl, ks, k, a, eky, evy, eD2, small, dp, isk, kat, nx⟩ => ?_
        subst eky evy
        obtain rfl : ku = Value.ref a := rk
        obtain rfl : vu = Value.bool true := rl
        exact put_ord (X := X.blk sc Hc scope ce fp) hu Il eD2 kat small dp isk fun sm Im => closeTurn Im nx
  exact codeAny_compStart_dict loop (T.self X.A 0 _ _ _ tne loop)
theorem pe_ord {kx vx tg iter : Expr} {ifs : List Expr} {scope : Scope} {own : List (Str × Nat)} {pos : Pos} {wi : TI} {g : TG} {tt : TT} {tk tv : TE} (calm : X.calm = true) (hu : X.A.units + 8 < cLine) (nd : X.N.Nodup) (it : PI X tg iter wi) (bo : BlkOk X.N X.env.scope scope own)
    (pg : ∀ (s : Shared) (H : Hp) (C : Addr) (cl : List (Str × Addr)) (fp : List Addr), PG (X.blk s H scope (compEnvC scope cl C X.env) fp) tg g) (pt : ∀ (s : Shared) (H : Hp) (C : Addr) (cl : List (Str × Addr)) (fp : List Addr), PTs (X.blk s H scope (compEnvC scope cl C X.env) fp) ifs tt)
    (pk : ∀ (s : Shared) (H : Hp) (C : Addr) (cl : List (Str × Addr)) (fp : List Addr), PE (X.blk s H scope (compEnvC scope cl C X.env) fp) kx tk)
    (pv : ∀ (s : Shared) (H : Hp) (C : Addr) (cl : List (Str × Addr)) (fp : List Addr), PE (X.blk s H scope (compEnvC scope cl C X.env) fp) vx tv) (fold : ∀ x, foldedSetIterable iter X.env x = pure x := by intro _; rfl) :
    PE X (.DictComp kx vx [⟨tg, iter, ifs, 0⟩] scope pos) (tOrd X.prog X.w wi g tt tk tv (own.map (·.2))) := by
  refine ⟨fun pins s σ H Q I asked => ?_⟩
  rw [arm_eval_DictComp]
  refine ord_core calm hu nd I it bo pg pt pk pv fold asked fun D C s' m H' I' q ns f => ⟨m, ns, fun h2 sb2 => ?_⟩
  obtain ⟨p0, p1, p2, p3, p4, p5⟩ := f
  exact ⟨.ref D, H', I'.turned (t' := s'.toks) (fun b o ne e => (sb2.2 b ne).trans e) p0 p1 p3 p4 p5, rfl, q⟩
/-- y = {k: True for ..} -/
theorem ps_setOrd {i : Nat} {y : Str} {py spos : Pos} {kx vx tg iter : Expr} {ifs : List Expr} {scope : Scope} {own : List (Str × Nat)} {pos : Pos} {wi : TI} {g : TG} {tt : TT} {tk tv : TE} (calm : X.calm = true) (hu : X.A.units + 8 < cLine) (nd : X.N.Nodup) (hy : X.N[i]? = some y) (lo : X.env.scope.names.lookup y = some .local)
    (sw : swapsWith (.DictComp kx vx [⟨tg, iter, ifs, 0⟩] scope pos) (some (.Name y py)) spos.line X.env = pure true) (it : PI X tg iter wi) (bo : BlkOk X.N X.env.scope scope own)
    (pg : ∀ (s : Shared) (H : Hp) (C : Addr) (cl : List (Str × Addr)) (fp : List Addr), PG (X.blk s H scope (compEnvC scope cl C X.env) fp) tg g) (pt : ∀ (s : Shared) (H : Hp) (C : Addr) (cl : List (Str × Addr)) (fp : List Addr), PTs (X.blk s H scope (compEnvC scope cl C X.env) fp) ifs tt)
    (pk : ∀ (s : Shared) (H : Hp) (C : Addr) (cl : List (Str × Addr)) (fp : List Addr), PE (X.blk s H scope (compEnvC scope cl C X.env) fp) kx tk)
    (pv : ∀ (s : Shared) (H : Hp) (C : Addr) (cl : List (Str × Addr)) (fp : List Addr), PE (X.blk s H scope (compEnvC scope cl C X.env) fp) vx tv) (fold : ∀ x, foldedSetIterable iter X.env x = pure x := by intro _; rfl) :
    PS X (.Assign [.Name y py] (.DictComp kx vx [⟨tg, iter, ifs, 0⟩] scope pos) spos) (tAsg (tOrd X.prog X.w wi g tt tk tv (own.map (·.2))) (gName i)) := by
  refine ⟨fun pins s σ H D0 I h => ?_⟩
  rw [exec_Assign_Name_used _ _ _ _ sw]
  refine wpAny_bind (wpAny_standAt (wpAny_bind ?_))
  show wpAny _ X.A (comprehension (.DictComp kx vx [⟨tg, iter, ifs, 0⟩] scope pos) scope X.env (firstIterPos [⟨tg, iter, ifs, 0⟩] pos) newDict false (eval iter X.env) (some (assign (.Name y py) X.env)) >>= _) _ _ s
  have asked : tOrd X.prog X.w wi g tt tk tv (own.map (·.2)) σ H (fun x H1 => gName i x σ H1 D0.nx) := h
  refine wpAny_bind (thn (ord_core (Qf := fun _ s2 => SP X pins D0 .next s2) calm hu nd I it bo pg pt pk pv fold asked fun D C s1 m H1 I1 q ns f => ?_) fun _ s2 hq => wpAny_pure (wpAny_pure hq))
  show wpAny _ _ (assign (.Name y py) X.env (.ref D)) _ _ _
  refine wpAny_assign_Name (store_ok2 (v := V.ref D) I1 nd hy (.inl lo) rfl (fun s2 I2 side => ?_) (.inr lo))
  obtain ⟨a, sb, ha⟩ := side
  obtain ⟨p0, p1, p2, p3, p4, p5⟩ := f
  have ne : C ≠ a := by
    cases ha with
    | inl z =>
      rw [z]
      exact p1
    | inr z => exact fun e => p4 y a z e.symm
  exact ⟨m, ns.sameBut sb ne, fun h3 sb3 => ⟨_, H1, I2.turned (t' := s2.toks) (fun b o hb e => (sb3.2 b hb).trans e) p0 p1 p3 p4 p5, q⟩⟩
end
end Tl

set_option autoImplicit false
set_option maxErrors 4
/-! tuple(d), d a dict of nested tuple keys. -/
namespace Tl
open PySem PySem.Spec PyProof.Rows L2
section
open PySem.Calls PySem.W
variable {prog : Program} {w : World} {A : Around} {E : Value → Shared → Prop} {s : Shared} {r d : Addr} {n : Nat} {Pd : Nat → Value → Prop} {OK : Heap → Prop}
/-- tuple(x), x walked as KdlSrc says -/
theorem tuple_src {Q : Value → Shared → Prop} (S : PySem.W.KdlSrc prog w "dict" r d n Pd OK) (calm : A.handled = none) (ok : OK s.heap) (small : n ≤ sizeLine)
    (q : ∀ (hp : Heap) (tk : Nat) (acc : Array Value), (∀ b o, s.heap.get? b = some o → hp.get? b = some o) → ItemsOf Pd acc n → Q (.ref hp.objs.size) { s with heap := hp.push { cls := .type "tuple", data := .seq acc }, toks := tk }) :
    wpAny (model prog w) A (call (.type "tuple") [.ref r]) Q E s := by
  have is : s.TypeIs (.ref r) "dict" := S.type s ok
  have calm2 : A.in1.in1.handled = none := calm
  refine callType_codes (Q₁ := fun u s2 => s2.TypeIs u "tuple" ∧ Q u s2) PySem.F.called_tuple (PySem.F.typeCall_tuple_1 _) PySem.F.entry_object_init (codeAny_of_tree ?_) fun u s2 hu =>
    ⟨hu.1, PySem.F.args_object_init_2 u _, object_init_meets PySem.F.called_tuple.init.lookup PySem.F.called_tuple.made (by decide) prog w A.in1 _ s2 ⟨hu.1, rfl, hu.2⟩⟩
  show wpAny _ _ (checkBuiltinCall "tuple.__new__" _ >>= fun _ => again _) _ _ s
  refine wpAny_bind (wpAny_of_eq (PySem.F.newCall_tuple_1 _) (wpAny_pure ⟨plainId_quiet PySem.F.plain_tuple_new _, codeAny_builtin PySem.F.entry_tuple_new ?_⟩))
  rw [Around.under_plainId PySem.F.plain_tuple_new _]
  have f1 := sub_tuple_self
  have f2 := init_tuple_lookup
  have f3 := madeHere_tuple
  wp_walk using wpAny_typeOf is, kdu_collect (A := A.in1.in1) S calm2 ok small
  intro hp tk acc keep all
  show wpAny _ _ (Builtin.Tuple.tupleExact acc.toList.toArray >>= ret) _ _ _
  rw [Array.toArray_toList]
  unfold Builtin.Tuple.tupleExact
  refine wpAny_bind (wpAny_newObj_type (wpAny_pure ⟨⟨_, Heap.get?_push_size _ rfl, rfl⟩, q hp tk acc keep all⟩) ?_)
  show acc.size ≤ sizeLine
  rw [all.1]
  exact small
end
theorem vals_addrs : ∀ bs : List Addr, Vals (bs.map V.ref) (bs.map Value.ref)
  | [] => .nil
  | _ :: bs => .cons rfl (vals_addrs bs)
theorem call_tupOrd {X : Cx} (calm : X.calm = true) : CallR X (.type "tuple") (fun xs H Q => ∃ (D : Addr) (ks : Ks), xs = [.ref D] ∧ H D = some (ordO X.prog X.w D ks) ∧ ∀ p, H p = none → Q (.ref p) (upd H p (.tup ((ks.map (·.2)).map V.ref)))) := by
  intro pins s σ H xs us Q I r h
  obtain ⟨D, ks, rfl, e, q⟩ := h
  obtain ⟨u, rfl, rx⟩ := r.one
  cases rx
  obtain ⟨z, ns, _, o, es, ep, g, ex, dt, l⟩ := ordO_at I.hok e
  have raw : s.heap.DictRaw D es ep := ⟨o, g, ex, dt⟩
  have len : es.size = ks.length := by
    have y := congrArg List.length l
    unfold rowsO at y
    simpa using y
  refine tuple_src (PySem.KdlSrc.rawDict ns) (I.ok.hd calm) raw (by rw [len]; exact z) fun hp tk acc keep all => ?_
  have ea : acc.toList = (ks.map (·.2)).map Value.ref := by
    apply List.ext_getElem?
    intro j
    have alen : acc.toList.length = ks.length := by rw [Array.length_toList, all.1, len]
    rw [List.map_map, List.getElem?_map]
    cases hj : acc.toList[j]? with
    | none =>
      have h1 := List.getElem?_eq_none_iff.mp hj
      rw [List.getElem?_eq_none (by omega)]
      rfl
    | some v =>
      obtain ⟨hi, rfl⟩ := all.2 j v (by rw [← Array.getElem?_toList]; exact hj)
      have hk : j < ks.length := by omega
      have e1 : es.toList[j]? = some es[j] := by rw [Array.getElem?_toList, Array.getElem?_eq_getElem hi]
      rw [l] at e1
      unfold rowsO at e1
      rw [List.map_map, List.getElem?_map, List.getElem?_eq_getElem hk] at e1
      have e2 := Option.some.inj e1
      rw [List.getElem?_eq_getElem hk, ← e2]
      rfl
  have rv : Vals ((ks.map (·.2)).map V.ref) acc.toList := by rw [ea]; exact vals_addrs _
  have J : Inv X pins σ H { s with heap := hp, toks := tk } := I.kept (t' := tk) keep
  refine ⟨.ref hp.objs.size, _, J.laid (t' := tk) (o := .tup ((ks.map (·.2)).map V.ref)) (fun b o e => Heap.get?_push_of_some _ e) (Nat.le_refl _) ⟨by rw [List.length_map, List.length_map]; exact z, acc.toList, rv, ?_⟩, rfl, q _ (J.hok.fresh (Nat.le_refl _))⟩
  rw [Array.toArray_toList]
  exact IsTup.new _ _
theorem ord_it {P : Program} {w : World} {J : It} {n : Nat} {G : Hp → Prop} {Y : Nat → Hp → V → Hp → Prop} (wk : Walk J n G Y) {g : TG} {tt : TT} {tk tv : TE} {vs : List Nat} {σ : L2.St} {H1 : Hp} {D : Addr} {Qd : Hp → Prop} (Pv : Nat → Hp → Prop) (h0 : Pv 0 (upd H1 D (ordO P w D []))) (hG : ∀ i H, i ≤ n → Pv i H → G H)
    (hs : ∀ i x H H', i < n → Pv i H → Y i H x H' → ordTurn P w g tt tk tv vs σ D (Pv (i + 1)) x H') (hd : ∀ H, Pv n H → Qd H) :
    ∃ W : Nat → Nat → Hp → Prop, (∃ m, W 0 m (upd H1 D (ordO P w D []))) ∧ ∀ i m H, W i m H → (J.stop i H ∧ Qd H) ∨ (J.go i H ∧ ∃ Nx : Hp → Prop, (∀ H3, Nx H3 → ∃ j, j < m ∧ W (i + 1) j H3) ∧ ∀ x H3, J.yld i H x H3 → ordTurn P w g tt tk tv vs σ D Nx x H3) := by
  refine ⟨fun i m H => m = n - i ∧ i ≤ n ∧ Pv i H, ⟨n, rfl, Nat.zero_le _, h0⟩, fun i m H z => ?_⟩
  obtain ⟨rfl, hi, p⟩ := z
  rcases Nat.lt_or_ge i n with lt | ge
  · exact .inr ⟨wk.goes i H lt (hG i H hi p), Pv (i + 1), fun H' p' => ⟨n - (i + 1), by omega, rfl, lt, p'⟩, fun x H' y => hs i x H H' lt p (wk.yields i H x H' lt (hG i H hi p) y)⟩
  · obtain rfl : i = n := Nat.le_antisymm hi ge
    exact .inl ⟨wk.stops H (hG i H hi p), hd H p⟩
end Tl

set_option autoImplicit false
set_option maxErrors 4
/-! [e for x in xs for y in ys] by walks. -/
namespace Tl
open PySem PySem.Spec PyProof.Rows L2
section
variable {J : It} {n : Nat} {G : Hp → Prop} {Y : Nat → Hp → V → Hp → Prop}
/-- the inner one: its turns go on from the heap that it finds -/
theorem in_it (w : Walk J n G Y) {g : TG} {tt : TT} {te : TE} {vs : List Nat} {σ : L2.St} {H0 : Hp} {D : Addr} {Nx : Hp → Prop} (Pv : Nat → Hp → Prop) (h0 : Pv 0 H0) (hG : ∀ j H, j ≤ n → Pv j H → G H)
    (hs : ∀ j x H H', j < n → Pv j H → Y j H x H' → g x (wipe σ vs) H' fun σ3 H5 => wipe σ3 vs = wipe σ vs ∧ tt σ3 H5 fun b H6 =>
      if b = true then te σ3 H6 fun y H7 => ∃ acc, H7 D = some (.lst acc) ∧ acc.length < sizeLine ∧ Pv (j + 1) (upd H7 D (.lst (acc ++ [y]))) else Pv (j + 1) H6) (hd : ∀ H, Pv n H → Nx H) :
    ∃ W1 : Nat → Nat → Hp → Prop, (∃ m, W1 0 m H0) ∧ ∀ j k H, W1 j k H → (J.stop j H ∧ Nx H) ∨ (J.go j H ∧ ∃ Nx1 : Hp → Prop, (∀ H', Nx1 H' → ∃ k', k' < k ∧ W1 (j + 1) k' H') ∧ ∀ x H', J.yld j H x H' → g x (wipe σ vs) H' fun σ3 H5 => wipe σ3 vs = wipe σ vs ∧ tt σ3 H5 fun b H6 =>
        if b = true then te σ3 H6 fun y H7 => ∃ acc, H7 D = some (.lst acc) ∧ acc.length < sizeLine ∧ Nx1 (upd H7 D (.lst (acc ++ [y]))) else Nx1 H6) := by
  refine ⟨fun j k H => k = n - j ∧ j ≤ n ∧ Pv j H, ⟨n, rfl, Nat.zero_le _, h0⟩, fun j k H z => ?_⟩
  obtain ⟨rfl, hj, p⟩ := z
  rcases Nat.lt_or_ge j n with lt | ge
  · exact .inr ⟨w.goes j H lt (hG j H hj p), Pv (j + 1), fun H' p' => ⟨n - (j + 1), by omega, rfl, lt, p'⟩, fun x H' y => hs j x H H' lt p (w.yields j H x H' lt (hG j H hj p) y)⟩
  · obtain rfl : j = n := Nat.le_antisymm hj ge
    exact .inl ⟨w.stops H (hG j H hj p), hd H p⟩
/-- the outer one -/
theorem out_it (w : Walk J n G Y) {g : TG} {tt : TT} {wi1 : TI} {g1 : TG} {tt1 : TT} {te : TE} {vs vs1 : List Nat} {σ : L2.St} {H1 : Hp} {D : Addr} {Qd : Hp → Prop} (Pv : Nat → Hp → Prop) (h0 : Pv 0 (upd H1 D (.lst []))) (hG : ∀ i H, i ≤ n → Pv i H → G H)
    (hs : ∀ i x H H', i < n → Pv i H → Y i H x H' → g x (wipe σ vs) H' fun σ2 H2 => wipe σ2 vs = wipe σ vs ∧ tt σ2 H2 fun b H3 =>
      if b = true then wi1 σ2 H3 fun J1 H4 => ∃ W1 : Nat → Nat → Hp → Prop, (∃ m, W1 0 m H4) ∧ ∀ j k H, W1 j k H →
        (J1.stop j H ∧ Pv (i + 1) H) ∨ (J1.go j H ∧ ∃ Nx1 : Hp → Prop, (∀ H', Nx1 H' → ∃ k', k' < k ∧ W1 (j + 1) k' H') ∧ ∀ x H', J1.yld j H x H' → g1 x (wipe σ2 vs1) H' fun σ3 H5 => wipe σ3 vs1 = wipe σ2 vs1 ∧ tt1 σ3 H5 fun b H6 =>
          if b = true then te σ3 H6 fun y H7 => ∃ acc, H7 D = some (.lst acc) ∧ acc.length < sizeLine ∧ Nx1 (upd H7 D (.lst (acc ++ [y]))) else Nx1 H6)
      else Pv (i + 1) H3) (hd : ∀ H, Pv n H → Qd H) :
    ∃ W : Nat → Nat → Hp → Prop, (∃ m, W 0 m (upd H1 D (.lst []))) ∧ ∀ i m H, W i m H →
      (J.stop i H ∧ Qd H) ∨ (J.go i H ∧ ∃ Nx : Hp → Prop, (∀ H', Nx H' → ∃ m', m' < m ∧ W (i + 1) m' H') ∧ ∀ x H', J.yld i H x H' → g x (wipe σ vs) H' fun σ2 H2 => wipe σ2 vs = wipe σ vs ∧ tt σ2 H2 fun b H3 =>
        if b = true then wi1 σ2 H3 fun J1 H4 => ∃ W1 : Nat → Nat → Hp → Prop, (∃ m, W1 0 m H4) ∧ ∀ j k H, W1 j k H →
          (J1.stop j H ∧ Nx H) ∨ (J1.go j H ∧ ∃ Nx1 : Hp → Prop, (∀ H', Nx1 H' → ∃ k', k' < k ∧ W1 (j + 1) k' H') ∧ ∀ x H', J1.yld j H x H' → g1 x (wipe σ2 vs1) H' fun σ3 H5 => wipe σ3 vs1 = wipe σ2 vs1 ∧ tt1 σ3 H5 fun b H6 =>
            if b = true then te σ3 H6 fun y H7 => ∃ acc, H7 D = some (.lst acc) ∧ acc.length < sizeLine ∧ Nx1 (upd H7 D (.lst (acc ++ [y]))) else Nx1 H6)
        else Nx H3) := by
  refine ⟨fun i m H => m = n - i ∧ i ≤ n ∧ Pv i H, ⟨n, rfl, Nat.zero_le _, h0⟩, fun i m H z => ?_⟩
  obtain ⟨rfl, hi, p⟩ := z
  rcases Nat.lt_or_ge i n with lt | ge
  · exact .inr ⟨w.goes i H lt (hG i H hi p), Pv (i + 1), fun H' p' => ⟨n - (i + 1), by omega, rfl, lt, p'⟩, fun x H' y => hs i x H H' lt p (w.yields i H x H' lt (hG i H hi p) y)⟩
  · obtain rfl : i = n := Nat.le_antisymm hi ge
    exact .inl ⟨w.stops H (hG i H hi p), hd H p⟩
end
end Tl

set_option autoImplicit false
set_option maxErrors 4
namespace K02
open PySem PySem.Spec PyProof.Rows L2 Tl
/-! ### alternatives: rows of runs -/
abbrev RunL := Str × Nat × Option Nat
abbrev RowL := List RunL
def mostK (m : Option Nat) : NestedKey := m.elim .none fun n => .num (n : Nat)
def runK (r : RunL) : NestedKey := .tup [.text r.1, .num (r.2.1 : Nat), mostK r.2.2]
def rowK (r : RowL) : NestedKey := .tup (r.map runK)
theorem mostK_inj {a b : Option Nat} (h : mostK a = mostK b) : a = b := by
  cases a with
  | none =>
    cases b with
    | none => rfl
    | some n => cases h
  | some n =>
    cases b with
    | none => cases h
    | some k =>
      injection h with h
      rw [Int.ofNat.inj h]
theorem runK_inj {a b : RunL} (h : runK a = runK b) : a = b := by
  unfold runK at h
  injection h with h
  injection h with h1 h
  injection h with h2 h
  injection h with h3 _
  injection h1 with h1
  injection h2 with h2
  obtain ⟨a1, a2, a3⟩ := a
  obtain ⟨b1, b2, b3⟩ := b
  dsimp only at h1 h2 h3
  rw [h1, Int.ofNat.inj h2, mostK_inj h3]
theorem map_runK_inj : ∀ {a b : RowL}, a.map runK = b.map runK → a = b
  | [], [], _ => rfl
  | [], _ :: _, h => by cases h
  | _ :: _, [], h => by cases h
  | x :: a, y :: b, h => by
    injection h with h1 h2
    rw [runK_inj h1, map_runK_inj h2]
theorem rowK_inj {a b : RowL} (h : rowK a = rowK b) : a = b := by
  unfold rowK at h
  injection h with h
  exact map_runK_inj h
theorem runK_depth (r : RunL) : (runK r).depth = 1 := by
  obtain ⟨s, l, m⟩ := r
  cases m <;> rfl
theorem rowK_depth (r : RowL) : (rowK r).depth ≤ 2 := by
  have e : ∀ r : RowL, NestedKey.depthAll (r.map runK) ≤ 1 := by
    intro r
    induction r with
    | nil => exact Nat.zero_le _
    | cons x r ih =>
      rw [List.map_cons, NestedKey.depthAll, runK_depth]
      omega
  unfold rowK
  rw [NestedKey.depth]
  have := e r
  omega
/-- alternatives, each where it stands -/
abbrev Rws := List (RowL × Addr)
def rowsV (rs : Rws) : List V := rs.map fun x => V.ref x.2
def RowsAt (H : Hp) (rs : Rws) : Prop := ∀ x ∈ rs, NkV H (rowK x.1) (.ref x.2)
theorem RowsAt.same {H H' : Hp} {rs : Rws} (h : RowsAt H rs) (s : Same H H') : RowsAt H' rs := fun x hx => (h x hx).same s
def putR (rs : Rws) (x : RowL × Addr) : Rws := if x.1 ∈ rs.map (·.1) then rs else rs ++ [x]
def onceR (rs : Rws) : Rws := rs.foldl putR []
def keysR (rs : Rws) : Ks := rs.map fun x => (rowK x.1, x.2)
theorem keysR_put (rs : Rws) (x : RowL × Addr) : putO (keysR rs) (rowK x.1) x.2 = keysR (putR rs x) := by
  have e : (rowK x.1 ∈ (keysR rs).map (·.1)) ↔ x.1 ∈ rs.map (·.1) := by
    unfold keysR
    rw [List.map_map, List.mem_map, List.mem_map]
    constructor
    · rintro ⟨y, hy, h⟩
      exact ⟨y, hy, rowK_inj h⟩
    · rintro ⟨y, hy, h⟩
      exact ⟨y, hy, congrArg rowK h⟩
  unfold putO putR
  by_cases m : x.1 ∈ rs.map (·.1)
  · rw [if_pos (e.mpr m), if_pos m]
  · rw [if_neg (fun z => m (e.mp z)), if_neg m]
    unfold keysR
    rw [List.map_append]
    rfl
theorem putR_length (rs : Rws) (x : RowL × Addr) : (putR rs x).length ≤ rs.length + 1 := by
  unfold putR
  split <;> simp
theorem onceR_take_len (rs : Rws) : ∀ i, ((rs.take i).foldl putR []).length ≤ i := by
  intro i
  induction i with
  | zero => exact Nat.le_refl _
  | succ i ih =>
    by_cases h : i < rs.length
    · rw [fold_take putR [] rs (List.getElem?_eq_getElem h)]
      have := putR_length ((rs.take i).foldl putR []) rs[i]
      omega
    · rw [List.take_of_length_le (by omega)]
      rw [List.take_of_length_le (by omega)] at ih
      omega
theorem putR_sub {rs : Rws} {x y : RowL × Addr} (h : y ∈ putR rs x) : y ∈ rs ∨ y = x := by
  unfold putR at h
  split at h
  · exact .inl h
  · exact (List.mem_append.mp h).imp id List.mem_singleton.mp
theorem onceR_sub {rs : Rws} : ∀ y ∈ onceR rs, y ∈ rs := by
  have key : ∀ (xs acc : Rws), ∀ y ∈ xs.foldl putR acc, y ∈ acc ∨ y ∈ xs := by
    intro xs
    induction xs with
    | nil => exact fun acc y h => .inl h
    | cons x xs ih =>
      intro acc y h
      rcases ih _ y h with h | h
      · rcases putR_sub h with h | h
        · exact .inl h
        · exact .inr (by rw [h]; exact List.mem_cons_self)
      · exact .inr (List.mem_cons_of_mem _ h)
  intro y h
  exact (key rs [] y h).elim (fun z => by cases z) id
section
variable {P : Program} {w : World} {K : PySem.W.Frag} {mg : Str → Option Value} {base : Heap}
def spWr : Sp := fun vs H Q _ => ∃ (l : Addr) (rs : Rws), vs = [.ref l] ∧ (H l = some (.lst (rowsV rs)) ∨ H l = some (.tup (rowsV rs))) ∧ RowsAt H rs ∧ rs.length ≤ 1000 ∧ ∀ t H', Same H H' → H t = none → H' t = some (.tup (rowsV (onceR rs))) → Q (.ref t) H'
set_option maxHeartbeats 20000000 in
theorem ok_without {f : Addr} {fd : FuncData} (F : FnP K "without_repeats" "without_repeats" s_without_repeats f fd) (N : Nms mg) : FnOk P w K mg base CX0 1 f fd ["rows"] spWr := by
  have nd := sc_without_repeats.nd
  refine F.ok sc_without_repeats (fun vs H Q E h => ?_) (fun cdv A outer s H vs Q E hr h => ?_)
  · obtain ⟨l, rs, rfl, _⟩ := h
    rfl
  · obtain ⟨l, rs, rfl, hl, at_, len, q⟩ := h
    have hu : (A.deeper (envOfC "without_repeats" (defScope s_without_repeats) s.heap.objs.size f cdv)).units + 8 < cLine := by have := hr.un; omega
    refine ⟨_, PSs.nox (pss_cons (ps_setOrd (i := 2) (own := [("row", 1)]) (g := gName 1) (tt := tYes) rfl hu nd rfl rfl rfl (pi_seq (pv 0)) (blkOk_by (N := ["rows", "row", "kept"]) (sc := defScope s_without_repeats) (by decide +kernel))
        (fun _ _ _ _ _ => pg_name (i := 1) nd rfl (Or.inl rfl)) (fun _ _ _ _ _ => pts_nil) (fun _ _ _ _ _ => pv 1) (fun _ _ _ _ _ => pe_bl))
      (pss_one (ps_ret (pe_callTy (call_tupOrd rfl) (by rfl) N.tuple (by decide +kernel) (pa_cons (pv 2) pa_nil))))), ?_⟩
    have lenV : (rowsV rs).length = rs.length := List.length_map _
    rcases hl with hl | hl
    · refine ⟨_, rfl, l, rfl, .inl ⟨⟨_, SqL.of hl⟩, fun D hD => ?_⟩⟩
      have nDl : l ≠ D := ne_of_none hl hD
      refine ord_it (n := rs.length) (by rw [← lenV]; exact walk_list) (fun i H' => H' D = some (ordO P w D (keysR ((rs.take i).foldl putR []))) ∧ ∀ b o, H b = some o → H' b = some o) ⟨upd_same, fun b o z => by rw [upd_ne (ne_of_none z hD)]; exact z⟩ (fun i H' _ h => SqL.of (h.2 _ _ hl)) ?_ ?_
      · rintro i x _ H2 hi ⟨e, kp⟩ ⟨rfl, hx⟩
        have hx2 : (rowsV rs)[i]? = some (.ref rs[i].2) := by
          unfold rowsV
          rw [List.getElem?_map, List.getElem?_eq_getElem hi]
          rfl
        have ex : x = .ref rs[i].2 := by
          rw [hx2] at hx
          exact (Option.some.inj hx).symm
        subst ex
        refine ⟨rfl, yes_keep ?_⟩
        have low := onceR_take_len rs i
        have same2 : Same H H2 := kp
        have kat : KeysAt H2 (keysR ((rs.take i).foldl putR [])) := fun y hy => by
          unfold keysR at hy
          obtain ⟨z, hz, rfl⟩ := List.mem_map.mp hy
          have zin : z ∈ rs := List.mem_of_mem_take (onceR_sub z hz)
          exact ⟨Nat.le_trans (rowK_depth _) (by decide), (at_ z zin).same same2⟩
        refine ⟨_, rfl, keysR ((rs.take i).foldl putR []), rowK rs[i].1, rs[i].2, rfl, rfl, e, ?_, Nat.le_trans (rowK_depth _) (by decide), (at_ _ (List.getElem_mem hi)).same same2, kat, ?_⟩
        · unfold keysR
          rw [List.length_map]
          exact small1000 (by omega)
        · rw [keysR_put, ← fold_take putR [] rs (List.getElem?_eq_getElem hi)]
          exact ⟨upd_same, fun b o z => by rw [upd_ne (ne_of_none z hD)]; exact kp b o z⟩
      · rintro H2 ⟨e, kp⟩
        rw [List.take_of_length_le (Nat.le_refl _)] at e
        refine name_go ?_
        dsimp only
        refine ⟨_, rfl, D, _, rfl, e, fun t ht => ?_⟩
        have same2 : Same H H2 := kp
        refine q t _ (same2.trans (same_new ht)) (same2.free ht) ?_
        rw [upd_same]
        unfold keysR rowsV onceR
        rw [List.map_map, List.map_map]
        rfl
    · refine ⟨_, rfl, l, rfl, .inr ⟨⟨_, SqT.of hl⟩, fun D hD => ?_⟩⟩
      have nDl : l ≠ D := ne_of_none hl hD
      refine ord_it (n := rs.length) (by rw [← lenV]; exact walk_tup) (fun i H' => H' D = some (ordO P w D (keysR ((rs.take i).foldl putR []))) ∧ ∀ b o, H b = some o → H' b = some o) ⟨upd_same, fun b o z => by rw [upd_ne (ne_of_none z hD)]; exact z⟩ (fun i H' _ h => SqT.of (h.2 _ _ hl)) ?_ ?_
      · rintro i x _ H2 hi ⟨e, kp⟩ ⟨rfl, hx⟩
        have hx2 : (rowsV rs)[i]? = some (.ref rs[i].2) := by
          unfold rowsV
          rw [List.getElem?_map, List.getElem?_eq_getElem hi]
          rfl
        have ex : x = .ref rs[i].2 := by
          rw [hx2] at hx
          exact (Option.some.inj hx).symm
        subst ex
        refine ⟨rfl, yes_keep ?_⟩
        have low := onceR_take_len rs i
        have same2 : Same H H2 := kp
        have kat : KeysAt H2 (keysR ((rs.take i).foldl putR [])) := fun y hy => by
          unfold keysR at hy
          obtain ⟨z, hz, rfl⟩ := List.mem_map.mp hy
          have zin : z ∈ rs := List.mem_of_mem_take (onceR_sub z hz)
          exact ⟨Nat.le_trans (rowK_depth _) (by decide), (at_ z zin).same same2⟩
        refine ⟨_, rfl, keysR ((rs.take i).foldl putR []), rowK rs[i].1, rs[i].2, rfl, rfl, e, ?_, Nat.le_trans (rowK_depth _) (by decide), (at_ _ (List.getElem_mem hi)).same same2, kat, ?_⟩
        · unfold keysR
          rw [List.length_map]
          exact small1000 (by omega)
        · rw [keysR_put, ← fold_take putR [] rs (List.getElem?_eq_getElem hi)]
          exact ⟨upd_same, fun b o z => by rw [upd_ne (ne_of_none z hD)]; exact kp b o z⟩
      · rintro H2 ⟨e, kp⟩
        rw [List.take_of_length_le (Nat.le_refl _)] at e
        refine name_go ?_
        dsimp only
        refine ⟨_, rfl, D, _, rfl, e, fun t ht => ?_⟩
        have same2 : Same H H2 := kp
        refine q t _ (same2.trans (same_new ht)) (same2.free ht) ?_
        rw [upd_same]
        unfold keysR rowsV onceR
        rw [List.map_map, List.map_map]
        rfl
end
end K02

set_option autoImplicit false
set_option maxErrors 4
namespace K02
open PySem PySem.Spec PyProof.Rows L2 Tl
def RunAt (H : Hp) (b : Addr) (r : RunL) : Prop := H b = some (.tup [.str r.1, .int (r.2.1 : Nat), mostV r.2.2])
theorem mostK_v {H : Hp} {m : Option Nat} {v : V} (h : NkV H (mostK m) v) : v = mostV m := by
  cases m with
  | none =>
    cases h
    rfl
  | some n =>
    cases h
    rfl
theorem mostK_is {H : Hp} (m : Option Nat) : NkV H (mostK m) (mostV m) := by
  cases m with
  | none => exact .non
  | some n => exact .int _
theorem run_at {H : Hp} {r : RunL} {v : V} (h : NkV H (runK r) v) : ∃ b, v = .ref b ∧ RunAt H b r := by
  unfold runK at h
  cases h with
  | tup e al =>
    cases al with
    | cons x1 al =>
      cases al with
      | cons x2 al =>
        cases al with
        | cons x3 al =>
          cases al
          cases x1
          cases x2
          have z := mostK_v x3
          subst z
          exact ⟨_, rfl, e⟩
theorem run_is {H : Hp} {b : Addr} {r : RunL} (h : RunAt H b r) : NkV H (runK r) (.ref b) := .tup h (.cons (.str _) (.cons (.int _) (.cons (mostK_is _) .nil)))
/-- the runs of an alternative, each where it stands -/
abbrev Rns := List (RunL × Addr)
def runsV (bs : Rns) : List V := bs.map fun x => V.ref x.2
theorem row_at {H : Hp} {r : RowL} {a : Addr} (h : NkV H (rowK r) (.ref a)) : ∃ bs : Rns, bs.map (·.1) = r ∧ H a = some (.tup (runsV bs)) ∧ ∀ x ∈ bs, RunAt H x.2 x.1 := by
  have key : ∀ (r : RowL) (vs : List V), NkAll H (r.map runK) vs → ∃ bs : Rns, bs.map (·.1) = r ∧ vs = runsV bs ∧ ∀ x ∈ bs, RunAt H x.2 x.1 := by
    intro r
    induction r with
    | nil =>
      intro vs h
      cases h
      exact ⟨[], rfl, rfl, fun x hx => by cases hx⟩
    | cons x r ih =>
      intro vs h
      cases h with
      | cons h1 h2 =>
        obtain ⟨b, rfl, hb⟩ := run_at h1
        obtain ⟨bs, e1, rfl, e3⟩ := ih _ h2
        refine ⟨(x, b) :: bs, by rw [List.map_cons, e1], rfl, fun y hy => ?_⟩
        rcases List.mem_cons.mp hy with rfl | hy
        · exact hb
        · exact e3 y hy
  unfold rowK at h
  cases h with
  | tup e al =>
    obtain ⟨bs, e1, rfl, e3⟩ := key _ _ al
    exact ⟨bs, e1, e, e3⟩
theorem row_is {H : Hp} {a : Addr} {bs : Rns} (h : H a = some (.tup (runsV bs))) (hb : ∀ x ∈ bs, RunAt H x.2 x.1) : NkV H (rowK (bs.map (·.1))) (.ref a) := by
  have key : ∀ bs : Rns, (∀ x ∈ bs, RunAt H x.2 x.1) → NkAll H ((bs.map (·.1)).map runK) (runsV bs) := by
    intro bs
    induction bs with
    | nil => exact fun _ => .nil
    | cons x r ih => exact fun h => .cons (run_is (h x List.mem_cons_self)) (ih fun y hy => h y (List.mem_cons_of_mem _ hy))
  exact .tup h (key bs hb)
def pcR (r : RunL) : Nat := pcL r.2.1 r.2.2
def placesR (r : RowL) : List Nat := r.map pcR
def placesRs (rs : Rws) : List Nat := rs.flatMap fun x => placesR x.1
/-- too many alternatives, runs, places -/
def tooLarge (rs : Rws) : Bool := decide (20 < rs.length) || (rs.any fun x => decide (20 < x.1.length)) || decide (120 < (placesRs rs).sum)
def rLenSeq (K : PySem.W.Frag) : List V → Hp → VK → Prop := fun xs H Q => ∃ p ys, xs = [V.ref p] ∧ (SqL K H p ys ∨ SqT K H p ys) ∧ Q (V.int (ys.length : Nat)) H
theorem sum_cast (xs : List Nat) : (xs.map fun x : Nat => (x : Int)).sum = ((xs.sum : Nat) : Int) := by
  induction xs with
  | nil => rfl
  | cons x r ih =>
    rw [List.map_cons, List.sum_cons, List.sum_cons, ih]
    push_cast
    rfl
/-- the bounds of the kinds, by their names -/
structure Cons (mg : Str → Option Value) : Prop where
  start : ∃ t, mg "START" = some (.int 1 t)
  alt : ∃ t, mg "MOST_ALTERNATIVES" = some (.int 20 t)
  runs : ∃ t, mg "MOST_RUNS" = some (.int 20 t)
  places : ∃ t, mg "MOST_PLACES_kinds" = some (.int 120 t)
  bound : ∃ t, mg "HIGHEST_BOUND" = some (.int 40 t)
theorem placesRs_len {rs : Rws} (h : ∀ x ∈ rs, x.1.length ≤ 20) : (placesRs rs).length ≤ rs.length * 20 := by
  unfold placesRs placesR
  induction rs with
  | nil => exact Nat.le_refl _
  | cons x r ih =>
    have h1 := h x List.mem_cons_self
    have h2 := ih fun y hy => h y (List.mem_cons_of_mem _ hy)
    rw [List.flatMap_cons, List.length_append, List.length_map, List.length_cons]
    omega
theorem placesRs_succ (rs : Rws) {i : Nat} (h : i < rs.length) : placesRs (rs.take (i + 1)) = placesRs (rs.take i) ++ placesR rs[i].1 := by
  unfold placesRs
  rw [List.take_add_one, List.getElem?_eq_getElem h, List.flatMap_append]
  simp
section
variable {P : Program} {w : World} {K : PySem.W.Frag} {mg : Str → Option Value} {base : Heap}
def spToo : Sp := fun vs H Q _ => ∃ (t : Addr) (rs : Rws), vs = [.ref t] ∧ H t = some (.tup (rowsV rs)) ∧ RowsAt H rs ∧ rs.length ≤ 1000 ∧ ∀ H', Same H H' → Q (.bl (tooLarge rs)) H'
set_option maxHeartbeats 20000000 in
theorem ok_too {f : Addr} {fd : FuncData} (F : FnP K "is_too_large" "is_too_large" s_is_too_large f fd) (N : Nms mg) (Co : Cons mg) (C : Can P w K mg base CX0 "place_count" ["least", "most"] 1 spPc) : FnOk P w K mg base CX0 2 f fd ["rows"] spToo := by
  obtain ⟨fC, fdC, GC, gC, kC, bC⟩ := C
  obtain ⟨tA, gA⟩ := Co.alt
  obtain ⟨tR, gR⟩ := Co.runs
  obtain ⟨tP, gP⟩ := Co.places
  have nd := sc_is_too_large.nd
  refine F.ok sc_is_too_large (fun vs H Q E h => ?_) (fun cdv A outer s H vs Q E hr h => ?_)
  · obtain ⟨t, rs, rfl, _⟩ := h
    rfl
  · obtain ⟨t, rs, rfl, ht, at_, len, q⟩ := h
    refine ⟨_, PSs.nox (pss_cons (ps_if (PW.pt (pw_or (pt_cmpR op_gt (pe_callB call_len_seq (by rfl) N.len PySem.boot_len (pa_cons (pv 0) pa_nil)) (pe_glob (v := .int 20) (by rfl) gA ⟨_, rfl⟩) (nomark _))
          (pw_or1 (pt_val (pe_callB (cr_any rfl) (by rfl) N.any (by decide +kernel) (pa_cons (pe_lc (own := [("row", 1)]) (g := gName 1) (tt := tYes) rfl nd (pi_tup (pv 0)) (blkOk_by (N := ["rows", "row", "signs", "least", "most"]) (sc := defScope s_is_too_large) (by decide +kernel))
            (fun _ _ _ _ _ => pg_name (i := 1) nd rfl (Or.inl rfl)) (fun _ _ _ _ _ => pts_nil) (fun _ _ _ _ _ => pe_cmpR op_gt (pe_callB (r := rLenSeq K) call_len_seq (by rfl) N.len PySem.boot_len (pa_cons (pv 1) pa_nil)) (pe_glob (v := .int 20) (by rfl) gR ⟨_, rfl⟩) (nomark _))) pa_nil))))))
        (pss_one (ps_ret pe_bl)) pss_nil)
      (pss_one (ps_ret (pe_cmpR op_gt (pe_callB (cr_sum rfl) (by rfl) N.sum (by decide +kernel) (pa_cons (pe_lc2 (own := [("row", 1), ("signs", 2), ("least", 3), ("most", 4)]) (vs1 := [2, 3, 4]) (g := gName 1) (tt := tYes) (wi1 := iTup K (tVar 1)) (g1 := gTup K 3 (gCons (gName 2) (gCons (gName 3) (gCons (gName 4) gNil)))) (tt1 := tYes) rfl nd (pi_tup (pv 0))
          (blkOk_by (N := ["rows", "row", "signs", "least", "most"]) (sc := defScope s_is_too_large) (by decide +kernel)) (by decide) (fun _ _ _ _ _ => pg_name (i := 1) nd rfl (Or.inl rfl)) (fun _ _ _ _ _ => pts_nil) (fun _ _ _ _ _ => pi_tup (pv 1))
          (fun _ _ _ _ _ => pg_tup rfl (pgs_cons (pg_name (i := 2) nd rfl (Or.inl rfl) (Or.inr rfl)) (pgs_cons (pg_name (i := 3) nd rfl (Or.inl rfl) (Or.inr rfl)) (pgs_cons (pg_name (i := 4) nd rfl (Or.inl rfl) (Or.inr rfl)) pgs_nil)))) (fun _ _ _ _ _ => pts_nil)
          (fun _ _ _ _ _ => pe_call GC hr (by rfl) gC kC bC .nil pass0 (pa_cons (pv 3) (pa_cons (pv 4) pa_nil)))) pa_nil)) (pe_glob (v := .int 120) (by rfl) gP ⟨_, rfl⟩) (nomark _))))), ?_⟩
    have lenV : (rowsV rs).length = rs.length := List.length_map _
    refine ⟨_, rfl, t, _, rfl, .inr (SqT.of ht), ?_⟩
    rw [lenV]
    refine ⟨_, _, rfl, rfl, _, rfl, ?_⟩
    have getV : ∀ {i : Nat} (hi : i < rs.length) {x : V}, (rowsV rs)[i]? = some x → x = .ref rs[i].2 := fun {i} hi {x} hx => by
      unfold rowsV at hx
      rw [List.getElem?_map, List.getElem?_eq_getElem hi] at hx
      exact (Option.some.inj hx).symm
    by_cases c1 : 20 < rs.length
    · have d1 : decide ((20 : Int) < ((rs.length : Nat) : Int)) = true := decide_eq_true (by omega)
      refine (if_pos d1).mpr ?_
      refine iteT ?_
      have e : tooLarge rs = true := by unfold tooLarge; simp [c1]
      rw [e] at q
      exact q H (Same.refl H)
    have d1 : ¬ decide ((20 : Int) < ((rs.length : Nat) : Int)) = true := by simp; omega
    refine (if_neg d1).mpr ?_
    refine ⟨_, rfl, t, rfl, ⟨_, SqT.of ht⟩, fun D hD => ?_⟩
    refine lc_it (n := rs.length) (by rw [← lenV]; exact walk_tup) (fun i H' => H' D = some (.lst ((rs.take i).map fun x => V.bl (decide (20 < x.1.length)))) ∧ Same H H') ⟨upd_same, same_new hD⟩ (fun i H' _ h => SqT.of (h.2 _ _ ht)) ?_ ?_
    · rintro i x _ H2 hi ⟨e, sm⟩ ⟨rfl, hx⟩
      have ex := getV hi hx
      subst ex
      obtain ⟨bs, e1, e2, _⟩ := row_at ((at_ _ (List.getElem_mem hi)).same sm)
      refine ⟨rfl, yes_keep ?_⟩
      refine ⟨_, rfl, rs[i].2, _, rfl, .inr (SqT.of e2), _, _, rfl, rfl, _, e, ?_, ?_, fun b o z => ?_⟩
      · rw [List.length_map, List.length_take]
        exact small1000 (by omega)
      · rw [upd_same, List.take_add_one, List.getElem?_eq_getElem hi, List.map_append]
        have el : (runsV bs).length = rs[i].1.length := by
          rw [← e1]
          unfold runsV
          rw [List.length_map, List.length_map]
        rw [el]
        have ed : decide ((20 : Int) < ((rs[i].1.length : Nat) : Int)) = decide (20 < rs[i].1.length) := by
          rw [decide_eq_decide]
          omega
        dsimp only
        rw [ed]
        rfl
      · rw [upd_ne (ne_of_none z hD)]
        exact sm _ _ z
    · rintro H1 ⟨e, s1⟩
      rw [List.take_of_length_le (Nat.le_refl _)] at e
      have ee : (rs.map fun x => V.bl (decide (20 < x.1.length))) = (rs.map fun x => decide (20 < x.1.length)).map V.bl := by
        rw [List.map_map]
        rfl
      rw [ee] at e
      refine ⟨D, _, rfl, SqL.of e, _, rfl, ?_⟩
      have ea : (rs.map fun x => decide (20 < x.1.length)).any id = rs.any fun x => decide (20 < x.1.length) := by
        rw [List.any_map]
        rfl
      rw [ea]
      by_cases c2 : (rs.any fun x => decide (20 < x.1.length)) = true
      · rw [c2]
        refine iteT ?_
        have e : tooLarge rs = true := by unfold tooLarge; simp [c2]
        rw [e] at q
        exact q H1 s1
      have c2f : (rs.any fun x => decide (20 < x.1.length)) = false := by simpa using c2
      rw [c2f]
      refine iteF ?_
      dsimp only
      have few : ∀ x ∈ rs, x.1.length ≤ 20 := fun x hx => by
        have z := List.any_eq_false.mp c2f x hx
        simp only [decide_eq_true_eq] at z
        omega
      refine ⟨_, rfl, t, rfl, ⟨_, SqT.of (s1 _ _ ht)⟩, fun D2 hD2 => ?_⟩
      refine out_it (n := rs.length) (by rw [← lenV]; exact walk_tup) (fun i H' => H' D2 = some (.lst (intsV (placesRs (rs.take i)))) ∧ Same H1 H') ⟨upd_same, same_new hD2⟩ (fun i H' _ h => SqT.of (h.2 _ _ (s1 _ _ ht))) ?_ ?_
      · rintro i x _ H2 hi ⟨e, sm⟩ ⟨rfl, hx⟩
        have ex := getV hi hx
        subst ex
        obtain ⟨bs, e1, e2, e3⟩ := row_at ((at_ _ (List.getElem_mem hi)).same s1)
        have lb : (runsV bs).length = bs.length := List.length_map _
        have lr : bs.length = rs[i].1.length := by rw [← e1, List.length_map]
        have f20 := few _ (List.getElem_mem hi)
        have fl : (placesRs (rs.take i)).length ≤ 20 * 20 := Nat.le_trans (placesRs_len fun x hx => few x (List.mem_of_mem_take hx)) (by rw [List.length_take]; exact Nat.mul_le_mul_right _ (by omega))
        refine ⟨rfl, yes_keep ?_⟩
        refine ⟨_, rfl, rs[i].2, rfl, ⟨_, SqT.of (sm _ _ e2)⟩, ?_⟩
        refine in_it (n := bs.length) (by rw [← lb]; exact walk_tup) (fun j H' => H' D2 = some (.lst (intsV (placesRs (rs.take i) ++ placesR (rs[i].1.take j)))) ∧ Same H1 H') ⟨by rw [List.take_zero]; unfold placesR; rw [List.map_nil, List.append_nil]; exact e, sm⟩ (fun j H' _ h => SqT.of (h.2 _ _ e2)) ?_ ?_
        · rintro j y _ H3 hj ⟨e4, s4⟩ ⟨rfl, hy⟩
          have ey : y = .ref bs[j].2 := by
            unfold runsV at hy
            rw [List.getElem?_map, List.getElem?_eq_getElem hj] at hy
            exact (Option.some.inj hy).symm
          subst ey
          have ra : H3 bs[j].2 = some (.tup [.str bs[j].1.1, .int (bs[j].1.2.1 : Nat), mostV bs[j].1.2.2]) := s4 _ _ (e3 _ (List.getElem_mem hj))
          refine ⟨bs[j].2, _, rfl, SqT.of ra, rfl, _, _, rfl, _, _, rfl, _, _, rfl, rfl, rfl, yes_keep ?_⟩
          refine ⟨_, rfl, _, rfl, bs[j].1.2.1, bs[j].1.2.2, rfl, _, e4, ?_, ?_, fun b o z => ?_⟩
          · rw [intsV_len, List.length_append]
            unfold placesR
            rw [List.length_map, List.length_take]
            exact small1000 (by omega)
          · rw [upd_same]
            have hjr : j < rs[i].1.length := by omega
            have er : rs[i].1[j]? = some bs[j].1 := by
              rw [← e1, List.getElem?_map, List.getElem?_eq_getElem hj]
              rfl
            have et : rs[i].1.take (j + 1) = rs[i].1.take j ++ [bs[j].1] := by
              rw [List.take_add_one, er]
              rfl
            rw [et]
            unfold placesR
            rw [List.map_append, ← List.append_assoc, ← intsV_app (placesRs (rs.take i) ++ (rs[i].1.take j).map pcR)]
            rfl
          · rw [upd_ne (ne_of_none z hD2)]
            exact s4 _ _ z
        · rintro H3 ⟨e4, s4⟩
          refine ⟨?_, s4⟩
          rw [placesRs_succ rs hi, e4, lr, List.take_of_length_le (Nat.le_refl _)]
      · rintro H2 ⟨e, sm⟩
        rw [List.take_of_length_le (Nat.le_refl _)] at e
        have ei : intsV (placesRs rs) = ((placesRs rs).map fun x : Nat => (x : Int)).map V.int := by
          unfold intsV
          rw [List.map_map]
          rfl
        rw [ei] at e
        refine ⟨D2, _, rfl, SqL.of e, _, _, rfl, rfl, ?_⟩
        rw [sum_cast]
        have et : tooLarge rs = decide ((120 : Int) < (((placesRs rs).sum : Nat) : Int)) := by
          unfold tooLarge
          rw [c2f, decide_eq_false c1, Bool.false_or, Bool.false_or, decide_eq_decide]
          omega
        rw [et] at q
        exact q H2 (s1.trans sm)
end
end K02

set_option autoImplicit false
set_option maxErrors 4
namespace K02
open PySem PySem.Spec PyProof.Rows L2 Tl
def runN (r : RunL) : LNet := runL r.1 r.2.1 r.2.2
def altN (r : RowL) : LNet := chainL (r.map runN)
def kindN (rs : List RowL) : LNet := sideL (rs.map altN)
/-- a run within the bounds -/
def RunOk (r : RunL) : Prop := r.1.cps.size ≤ 1000 ∧ (∀ n, r.2.2 = some n → r.2.1 ≤ n) ∧ pcR r ≤ 500
theorem runN_chars (r : RunL) : (runN r).chars.length = pcR r := by
  unfold runN runL pcR
  exact List.length_replicate
theorem runN_ok {r : RunL} (h : RunOk r) : (runN r).Ok := runL_ok h.1 h.2.1 (Nat.le_trans h.2.2 (by decide))
theorem charsOf_runs (r : RowL) : charsOf (r.map runN) = (placesR r).sum := by
  unfold charsOf placesR
  rw [List.map_map]
  congr 1
  exact List.map_congr_left fun x _ => runN_chars x
theorem chain_ok : ∀ (ns : List LNet) (acc : LNet), acc.Ok → (∀ n ∈ ns, n.Ok) → acc.chars.length + charsOf ns ≤ 1000 → (ns.foldl chainStep acc).Ok ∧ (ns.foldl chainStep acc).chars.length = acc.chars.length + charsOf ns
  | [], acc, ok, _, _ => ⟨ok, by unfold charsOf; simp⟩
  | n :: ns, acc, ok, all, small => by
    have c : charsOf (n :: ns) = n.chars.length + charsOf ns := by unfold charsOf; simp
    have cl : (chainStep acc n).chars.length = acc.chars.length + n.chars.length := by
      unfold chainStep
      exact List.length_append
    obtain ⟨r1, r2⟩ := chain_ok ns (chainStep acc n) (chainStep_ok ok (all n List.mem_cons_self) (by omega)) (fun x hx => all x (List.mem_cons_of_mem _ hx)) (by omega)
    exact ⟨r1, by rw [List.foldl_cons, r2]; omega⟩
theorem altN_ok {r : RowL} (h : ∀ x ∈ r, RunOk x) (small : (placesR r).sum ≤ 500) : (altN r).Ok ∧ (altN r).chars.length = (placesR r).sum := by
  have z := chain_ok (r.map runN) chain0 chain0_ok (fun n hn => by
    obtain ⟨x, hx, rfl⟩ := List.mem_map.mp hn
    exact runN_ok (h x hx)) (by rw [charsOf_runs]; show 0 + _ ≤ 1000; omega)
  refine ⟨z.1, ?_⟩
  show (List.foldl chainStep chain0 (r.map runN)).chars.length = _
  rw [z.2, charsOf_runs]
  show 0 + _ = _
  omega
/-- a net that has nothing at D -/
def NetOff (NC D : Addr) (H : Hp) (r : Addr) (n : LNet) : Prop := ∃ dx c f d, (r ≠ D ∧ c ≠ D ∧ f ≠ D ∧ d ≠ D) ∧ H r = some (.ins NC dx [("chars", .ref c), ("follow", .ref f), ("exits", .int (n.exits : Nat)), ("stands_for", .ref d)]) ∧ H c = some (.lst (strsV n.chars)) ∧ H f = some (.lst (intsV n.follow)) ∧ H d = some (.dK (standsFor n.chars))
theorem NetOff.at {NC D : Addr} {H : Hp} {r : Addr} {n : LNet} (h : NetOff NC D H r n) : NetAt NC H r n := by
  obtain ⟨dx, c, f, d, _, h⟩ := h
  exact ⟨dx, c, f, d, h⟩
theorem NetOff.same {NC D : Addr} {H H' : Hp} {r : Addr} {n : LNet} (h : NetOff NC D H r n) (s : ∀ b o, b ≠ D → H b = some o → H' b = some o) : NetOff NC D H' r n := by
  obtain ⟨dx, c, f, d, ⟨n1, n2, n3, n4⟩, h1, h2, h3, h4⟩ := h
  exact ⟨dx, c, f, d, ⟨n1, n2, n3, n4⟩, s _ _ n1 h1, s _ _ n2 h2, s _ _ n3 h3, s _ _ n4 h4⟩
theorem NetNew.off {NC D : Addr} {H H' : Hp} {r c f : Addr} {n : LNet} {o : HO} (h : NetNew NC H H' r c f n) (hr : H r = none) (hc : H c = none) (hf : H f = none) (hD : H D = some o) : NetOff NC D H' r n := by
  obtain ⟨dx, d, h0, h⟩ := h
  have ne : ∀ {x : Addr}, H x = none → x ≠ D := fun {x} z e => by
    rw [e, hD] at z
    cases z
  exact ⟨dx, c, f, d, ⟨ne hr, ne hc, ne hf, ne h0⟩, h⟩
/-- a net made after H0 -/
def NetFar (NC : Addr) (H0 H : Hp) (r : Addr) (n : LNet) : Prop := ∃ dx c f d, (H0 r = none ∧ H0 c = none ∧ H0 f = none ∧ H0 d = none) ∧ H r = some (.ins NC dx [("chars", .ref c), ("follow", .ref f), ("exits", .int (n.exits : Nat)), ("stands_for", .ref d)]) ∧ H c = some (.lst (strsV n.chars)) ∧ H f = some (.lst (intsV n.follow)) ∧ H d = some (.dK (standsFor n.chars))
theorem NetFar.at {NC : Addr} {H0 H : Hp} {r : Addr} {n : LNet} (h : NetFar NC H0 H r n) : NetAt NC H r n := by
  obtain ⟨dx, c, f, d, _, h⟩ := h
  exact ⟨dx, c, f, d, h⟩
theorem NetFar.keep {NC : Addr} {H0 H H' : Hp} {r : Addr} {n : LNet} (h : NetFar NC H0 H r n) (s : ∀ b o, H0 b = none → H b = some o → H' b = some o) : NetFar NC H0 H' r n := by
  obtain ⟨dx, c, f, d, ⟨n1, n2, n3, n4⟩, h1, h2, h3, h4⟩ := h
  exact ⟨dx, c, f, d, ⟨n1, n2, n3, n4⟩, s _ _ n1 h1, s _ _ n2 h2, s _ _ n3 h3, s _ _ n4 h4⟩
theorem NetFar.from {NC : Addr} {H0 H1 H : Hp} {r : Addr} {n : LNet} (h : NetFar NC H1 H r n) (s : ∀ x, H1 x = none → H0 x = none) : NetFar NC H0 H r n := by
  obtain ⟨dx, c, f, d, ⟨n1, n2, n3, n4⟩, h⟩ := h
  exact ⟨dx, c, f, d, ⟨s _ n1, s _ n2, s _ n3, s _ n4⟩, h⟩
theorem NetNew.far {NC : Addr} {H H' : Hp} {r c f : Addr} {n : LNet} (h : NetNew NC H H' r c f n) (hr : H r = none) (hc : H c = none) (hf : H f = none) : NetFar NC H H' r n := by
  obtain ⟨dx, d, h0, h⟩ := h
  exact ⟨dx, c, f, d, ⟨hr, hc, hf, h0⟩, h⟩
section
variable {P : Program} {w : World} {K : PySem.W.Frag} {mg : Str → Option Value} {base : Heap} {NC : Addr}
def spAlt (NC : Addr) : Sp := fun vs H Q _ => ∃ (a : Addr) (r : RowL), vs = [.ref a] ∧ NkV H (rowK r) (.ref a) ∧ (∀ x ∈ r, RunOk x) ∧ (placesR r).sum ≤ 500 ∧ r.length ≤ 500 ∧ GivesNet NC H Q (altN r)
set_option maxHeartbeats 20000000 in
theorem ok_alt {f : Addr} {fd : FuncData} (F : FnP K "alternative_net" "alternative_net" s_alternative_net f fd) (C : Can P w K mg base CX0 "chained" ["nets"] 4 (spNets NC chainL)) (R : Can P w K mg base CX0 "run_net" ["signs", "least", "most"] 4 (spRunNet NC)) : FnOk P w K mg base CX0 5 f fd ["row"] (spAlt NC) := by
  obtain ⟨fC, fdC, GC, gC, kC, bC⟩ := C
  obtain ⟨fR, fdR, GR, gR, kR, bR⟩ := R
  have nd := sc_alternative_net.nd
  refine F.ok sc_alternative_net (fun vs H Q E h => ?_) (fun cdv A outer s H vs Q E hr h => ?_)
  · obtain ⟨a, r, rfl, _⟩ := h
    rfl
  · obtain ⟨a, r, rfl, nk, ok, small, len, q⟩ := h
    refine ⟨_, PSs.nox (pss_one (ps_ret (pe_call GC hr (by rfl) gC kC bC .nil pass0 (pa_cons (pe_lc (own := [("signs", 1), ("least", 2), ("most", 3)]) (g := gTup K 3 (gCons (gName 1) (gCons (gName 2) (gCons (gName 3) gNil)))) (tt := tYes) rfl nd (pi_tup (pv 0)) (blkOk_by (N := ["row", "signs", "least", "most"]) (sc := defScope s_alternative_net) (by decide +kernel))
        (fun _ _ _ _ _ => pg_tup rfl (pgs_cons (pg_name (i := 1) nd rfl (Or.inl rfl) (Or.inr rfl)) (pgs_cons (pg_name (i := 2) nd rfl (Or.inl rfl) (Or.inr rfl)) (pgs_cons (pg_name (i := 3) nd rfl (Or.inl rfl) (Or.inr rfl)) pgs_nil)))) (fun _ _ _ _ _ => pts_nil)
        (fun _ _ _ _ _ => pe_call GR hr (by rfl) gR kR bR .nil pass0 (pa_cons (pv 1) (pa_cons (pv 2) (pa_cons (pv 3) pa_nil))))) pa_nil)))), ?_⟩
    obtain ⟨bs, e1, e2, e3⟩ := row_at nk
    have lb : (runsV bs).length = bs.length := List.length_map _
    have lr : bs.length = r.length := by rw [← e1, List.length_map]
    refine ⟨_, rfl, a, rfl, ⟨_, SqT.of e2⟩, fun D hD => ?_⟩
    refine lc_it (n := bs.length) (by rw [← lb]; exact walk_tup) (fun j H' => ∃ ps : Prs, H' D = some (.lst (refsP ps)) ∧ netsP ps = (r.take j).map runN ∧ (∀ x ∈ ps, NetOff NC D H' x.1 x.2 ∧ x.2.Ok) ∧ Same H H') ⟨[], upd_same, rfl, (fun x hx => by cases hx), same_new hD⟩ (fun j H' _ h => by
      obtain ⟨_, _, _, _, sm⟩ := h
      exact SqT.of (sm _ _ e2)) ?_ ?_
    · rintro j y _ H3 hj ⟨ps, e4, en, na, sm⟩ ⟨rfl, hy⟩
      have ey : y = .ref bs[j].2 := by
        unfold runsV at hy
        rw [List.getElem?_map, List.getElem?_eq_getElem hj] at hy
        exact (Option.some.inj hy).symm
      subst ey
      have ra : H3 bs[j].2 = some (.tup [.str bs[j].1.1, .int (bs[j].1.2.1 : Nat), mostV bs[j].1.2.2]) := sm _ _ (e3 _ (List.getElem_mem hj))
      have er : r[j]? = some bs[j].1 := by
        rw [← e1, List.getElem?_map, List.getElem?_eq_getElem hj]
        rfl
      obtain ⟨o1, o2, o3⟩ := ok _ (List.mem_of_getElem? er)
      refine ⟨bs[j].2, _, rfl, SqT.of ra, rfl, _, _, rfl, _, _, rfl, _, _, rfl, rfl, rfl, yes_keep ?_⟩
      refine ⟨_, rfl, _, rfl, _, rfl, bs[j].1.1, bs[j].1.2.1, bs[j].1.2.2, rfl, o1, o2, o3, fun n nc nf H4 s4 hn0 hnc hnf nat => ?_⟩
      have eD := s4 _ _ e4
      have lp : ps.length = j := by
        have z := congrArg List.length en
        unfold netsP at z
        rw [List.length_map, List.length_map, List.length_take] at z
        omega
      have nD : n ≠ D := fun z => by
        rw [z, e4] at hn0
        cases hn0
      have keep : ∀ b o, b ≠ D → H4 b = some o → (upd H4 D (.lst (refsP ps ++ [.ref n]))) b = some o := fun b o nb z => by
        rw [upd_ne nb]
        exact z
      refine ⟨_, eD, ?_, ps ++ [(n, runN bs[j].1)], ?_, ?_, ?_, fun b o z => ?_⟩
      · unfold refsP
        rw [List.length_map, lp]
        exact small1000 (by omega)
      · rw [upd_same]
        unfold refsP
        rw [List.map_append]
        rfl
      · unfold netsP at en ⊢
        rw [List.map_append, en, List.take_add_one, er, List.map_append]
        rfl
      · intro x hx
        have off : ∀ b o, b ≠ D → H4 b = some o → (upd H4 D (.lst (refsP ps ++ [.ref n]))) b = some o := keep
        rcases List.mem_append.mp hx with hx | hx
        · exact ⟨((na x hx).1.same fun b o _ z => s4 _ _ z).same off, (na x hx).2⟩
        · rw [List.mem_singleton.mp hx]
          exact ⟨(nat.off hn0 hnc hnf e4).same off, runN_ok ⟨o1, o2, o3⟩⟩
      · rw [upd_ne (ne_of_none z hD)]
        exact s4 _ _ (sm _ _ z)
    · rintro H1 ⟨ps, e4, en, na, sm⟩
      rw [lr, List.take_of_length_le (Nat.le_refl _)] at en
      refine ⟨D, ps, rfl, e4, fun x hx => ⟨(na x hx).1.at, (na x hx).2⟩, ?_, ?_⟩
      · rw [en, charsOf_runs]
        exact small
      · rw [en]
        exact fun n nc nf H2 s2 hn hc hf at_ => q n nc nf H2 (sm.trans s2) (sm.free hn) (sm.free hc) (sm.free hf) (at_.of sm)
end
end K02

/-! bool(a) of an own class, bool(text). -/
namespace Tl
open PySem PySem.Spec PyProof.Rows L2
theorem bool_by {prog : Program} {w : World} (v : Value) :
    MeetsIn prog w (Builtin.«bool.__new__» ⟨[.type "bool", v], []⟩) (fun A R s => wpAny (model prog w) A.in1 (truthy v) (fun b s' => R (.ok (.ret (.bool b))) s') (fun e s' => R (.error e) s') s) := by
  intro A R s h
  have f1 := F.conv_sub_bool
  obtain ⟨hp, g, d, tk, os⟩ := s
  unfold Builtin.«bool.__new__»
  generalize hT : truthy = TR at h ⊢
  repeat (any_goals (first | assumption | wp_step))
  all_goals skip
  exact wpAny_mono h (fun b s' q => wpAny_pure q) fun _ _ z => z
theorem call_bool_by {prog : Program} {w : World} {A : Around} {E : Value → Shared → Prop} {s : Shared} {v : Value} {Q : Value → Shared → Prop}
    (h : wpAny (model prog w) A.in1.in1 (truthy v) (fun b s' => Q (.bool b) s') E s) : wpAny (model prog w) A (call (.type "bool") [v]) Q E s :=
  callType_newIn F.called_bool F.newNe_bool (F.typeCall_bool_1 v) (F.newCall_bool_1 v) (fun obj => F.args_object_init_2 obj v) F.entry_bool_new (bool_by v)
    (wpAny_mono h (fun b s' q => ⟨rfl, q⟩) fun _ _ z => z)
section
variable {X : Cx} {CX : CXT} {k : Nat} {C f : Addr} {fd : FuncData} {ps : List Str} {sp : Sp} {E : XK}
/-- bool(a), a an instance of C with an own __bool__ -/
def rBoolO (C : Addr) (sp : Sp) (E : XK) : List V → Hp → VK → Prop := fun xs H Q => ∃ a dx fs, xs = [.ref a] ∧ H a = some (.ins C dx fs) ∧ sp [.ref a] H (fun v H' => ∃ b, v = .bl b ∧ Q (.bl b) H') E
theorem call_boolO (M : OpC X.K C "__bool__" f) (F : FnOk X.prog X.w X.K X.mg X.base CX k f fd ps sp) (hr : Room (k + 2) X.A) (hb : Binds X.K fd ps []) (hx : Passes CX X E) : CallR X (.type "bool") (rBoolO C sp E) := by
  intro pins s σ H xs us Q I r h
  obtain ⟨a, dx, fs, rfl, ha, q⟩ := h
  rw [Vals.ref1 r]
  obtain ⟨oa, da, Ja⟩ := inst_of I ha
  obtain ⟨mm, Fm⟩ := I.fr
  have hl : ([Value.ref a] ++ []).length = ps.length := by
    rw [← F.len _ _ _ _ q]
    rfl
  refine call_bool_by (PySem.W.truthy_K Fm I.mod.kin Ja M.at_ M.fn (wpAny_call (codeAny_mono (F.run X.A.in1.in1 X.stack s H ⟨[.ref a], []⟩ [.ref a] [.ref a] _ E hr.in1.in1 I.env0.in1.in1 (hb _ [.ref a] I.kIn hl) (.cons (relRef _) .nil) q) fun r s' hq => ?_)))
  cases r with
  | error er => exact hx pins σ H s er s' I hq
  | ok fl =>
    cases fl with
    | ret u =>
      obtain ⟨v, H', I3, rv, b, rfl, q3⟩ := I.after hq
      cases rv
      exact ⟨.bl b, H', I3, rfl, q3⟩
    | next => exact False.elim hq
    | brk => exact False.elim hq
    | cont => exact False.elim hq
/-- bool(z) of a text -/
theorem call_boolTx : CallR X (.type "bool") (fun xs H Q => ∃ l : List Nat, xs = [.str (tx l)] ∧ l.length ≤ 16777216 ∧ Q (.bl (!l.isEmpty)) H) := by
  intro pins s σ H xs us Q I r h
  obtain ⟨l, rfl, hl, q⟩ := h
  obtain ⟨u, rfl, t, rfl⟩ := vals1 r
  have e : (((tx l).length : Int) != 0) = !l.isEmpty := by
    rw [len_tx]
    cases l with
    | nil => rfl
    | cons x l2 =>
      rw [List.length_cons]
      show ((((l2.length + 1 : Nat) : Int) != 0)) = true
      rw [bne_iff_ne]
      omega
  refine call_bool_str (by rw [len_tx]; omega) ⟨.bl (!l.isEmpty), H, I.tok _, by rw [e]; rfl, q⟩
end
end Tl

set_option autoImplicit false
set_option maxErrors 4
namespace K02
open PySem PySem.Spec PyProof.Rows L2 Tl
/-! ### the mathematics of sets of signs: an ascending list of codes -/
def norm (l : List Nat) : List Nat := alpha.filter fun n => decide (n ∈ l)
theorem mem_norm {l : List Nat} (h : ∀ n ∈ l, n ∈ alpha) (n : Nat) : n ∈ norm l ↔ n ∈ l := by
  unfold norm
  rw [List.mem_filter, decide_eq_true_eq]
  exact ⟨fun x => x.2, fun x => ⟨h n x, x⟩⟩
theorem norm_sub (l : List Nat) : ∀ n ∈ norm l, n ∈ alpha := fun n h => (List.mem_filter.mp h).1
theorem norm_congr {l k : List Nat} (h : ∀ n ∈ alpha, n ∈ l ↔ n ∈ k) : norm l = norm k := by
  unfold norm
  exact List.filter_congr fun n hn => by
    rw [decide_eq_decide]
    exact h n hn
theorem norm_norm (l : List Nat) : norm (norm l) = norm l := norm_congr fun n hn => by
  unfold norm
  rw [List.mem_filter, decide_eq_true_eq]
  exact ⟨fun x => x.2, fun x => ⟨hn, x⟩⟩
theorem norm_len (l : List Nat) : (norm l).length ≤ 94 := by
  have h := List.length_filter_le (fun n => decide (n ∈ l)) alpha
  rw [alpha_len] at h
  exact h
theorem norm_filter (l : List Nat) (p : Nat → Bool) : (norm l).filter p = norm ((norm l).filter p) := by
  have e : norm ((norm l).filter p) = alpha.filter fun n => decide (n ∈ l) && p n := by
    unfold norm
    refine List.filter_congr fun n hn => ?_
    rw [Bool.eq_iff_iff, decide_eq_true_eq, List.mem_filter, List.mem_filter, Bool.and_eq_true]
    exact ⟨fun x => ⟨x.1.2, x.2⟩, fun x => ⟨⟨hn, x.1⟩, x.2⟩⟩
  rw [e]
  unfold norm
  rw [List.filter_filter]
  exact List.filter_congr fun n _ => Bool.and_comm _ _
/-! ### the class Signs -/
/-- the attributes of a set of the signs S -/
def flS (S : List Nat) : List (Str × V) := [("signs", .str (tx S))]
theorem flS_signs (S : List Nat) : (flS S).lookup ("signs" : Str) = some (.str (tx S)) := by
  unfold flS
  simp [List.lookup]
theorem flS_no (S : List Nat) {m : Str} (h : ¬ m = "signs") : (flS S).lookup m = none := by
  unfold flS
  have e : (m == ("signs" : Str)) = false := by simpa using h
  simp [List.lookup, e]
/-- a set of signs stands at a -/
structure Sg (C : Addr) (H : Hp) (a : Addr) (S : List Nat) : Prop where
  ob : ∃ dx, H a = some (.ins C dx (flS S))
  can : norm S = S
theorem Sg.at {C : Addr} {H H' : Hp} {a : Addr} {S : List Nat} (h : Sg C H a S) (k : ∀ o, H a = some o → H' a = some o) : Sg C H' a S := by
  obtain ⟨⟨dx, e⟩, c⟩ := h
  exact ⟨⟨dx, k _ e⟩, c⟩
theorem Sg.len {C : Addr} {H : Hp} {a : Addr} {S : List Nat} (h : Sg C H a S) : S.length ≤ 94 := by
  rw [← h.can]
  exact norm_len S
theorem Sg.sub {C : Addr} {H : Hp} {a : Addr} {S : List Nat} (h : Sg C H a S) : ∀ n ∈ S, n ∈ alpha := by
  rw [← h.can]
  exact norm_sub S
/-- a text of signs -/
structure SgT (l : List Nat) : Prop where
  sub : ∀ n ∈ l, n ∈ alpha
  few : l.length ≤ 2000
theorem Sg.txt {C : Addr} {H : Hp} {a : Addr} {S : List Nat} (h : Sg C H a S) : SgT S := ⟨h.sub, Nat.le_trans h.len (by decide)⟩
/-- what the walk asks of the class Signs -/
structure Txt (K : PySem.W.Frag) (mg : Str → Option Value) (C : Addr) : Prop where
  cl : Cls K C
  nS : NoAttr K C "signs"
  gC : mg "Signs" = some (.ref C)
  sgn : ∃ t, mg "SIGNS" = some (.str (tx alpha) t)
  kStr : PySem.W.kitOne K (.type "str") (.ref C) = some false
  kOwn : PySem.W.kitOne K (.ref C) (.ref C) = some true
  sStr : PySem.W.kitOne K (.ref C) (.type "str") = some false
  c1 : PySem.W.findIn K (.ref C) "__class__" = some (some (.builtin "object.__class__"))
  c2 : PySem.W.specialIn K (.builtin "object.__class__") "__get__" = some (some (.builtin "getset_descriptor.__get__"))
  c3 : PySem.W.takesIn K (.builtin "object.__class__") = some true
  c4 : PySem.W.mroIn K C (.type "object") = some true
theorem Txt.ty {K : PySem.W.Frag} {mg : Str → Option Value} {C : Addr} (T : Txt K mg C) {H : Hp} {a : Addr} {S : List Nat} (h : Sg C H a S) : TyX K H (.ref a) (.ref C) := by
  obtain ⟨⟨dx, e⟩, _⟩ := h
  exact .base (.ins e T.cl T.c1 T.c2 T.c3 T.c4)
/-- what an operand may be: a set of the signs S or a text of them -/
def Opd (C : Addr) (H : Hp) (x : V) (S : List Nat) : Prop := (∃ a, x = .ref a ∧ Sg C H a S) ∨ ∃ l, x = .str (tx l) ∧ SgT l ∧ S = norm l
abbrev Gives (H : Hp) (Q : VK) (v : V) : Prop := ∀ H', Same H H' → Q v H'
/-- what is asked whether it is signs -/
inductive Asked (K : PySem.W.Frag) (C : Addr) (H : Hp) : V → Bool → Prop
  | set {a : Addr} {S : List Nat} : Sg C H a S → Asked K C H (.ref a) true
  | txt {l : List Nat} : l.length ≤ 2000 → Asked K C H (.str (tx l)) (l.all fun n => decide (n ∈ alpha))
  | off {x : V} {t : Value} : TyX K H x t → PySem.W.kitOne K t (.ref C) = some false → PySem.W.kitOne K t (.type "str") = some false → Asked K C H x false
section
variable {P : Program} {w : World} {K : PySem.W.Frag} {mg : Str → Option Value} {base : Heap} {C : Addr}
def spTextA (K : PySem.W.Frag) (C : Addr) : Sp := fun vs H Q _ => ∃ x b, vs = [x] ∧ Asked K C H x b ∧ (∀ a, x = .ref a → b = false) ∧ Gives H Q (.bl b)
theorem ok_is_sign_text {f : Addr} {fd : FuncData} (F : FnP K "is_sign_text" "is_sign_text" s_is_sign_text f fd) (T : Txt K mg C) (N : Nms mg) : FnOk P w K mg base CX0 1 f fd ["thing"] (spTextA K C) := by
  have nd := sc_is_sign_text.nd
  refine F.ok sc_is_sign_text (fun vs H Q E h => ?_) (fun cdv A outer s H vs Q E hr h => ?_)
  · obtain ⟨x, b, rfl, _⟩ := h
    rfl
  · obtain ⟨x, b, rfl, ak, nr, q⟩ := h
    obtain ⟨t, gS⟩ := T.sgn
    refine ⟨_, PSs.nox (pss_one (ps_ret (pe_and (pe_callB call_isi (by rfl) N.isi (by decide +kernel) (pa_cons (pv 0) (pa_cons (pe_bltn (v := .ty "str") (by rfl) N.str (by decide +kernel) rfl) pa_nil)))
      (pe_one (pe_callB (cr_all rfl) (by rfl) N.all (by decide +kernel) (pa_cons (pe_lc (own := [("sign", 1)]) (g := gName 1) (tt := tYes) rfl nd (pi_str (pv 0)) (blkOk_by (N := ["thing", "sign"]) (sc := defScope s_is_sign_text) (by decide +kernel)) (fun _ _ _ _ _ => pg_name (i := 1) nd rfl (Or.inl rfl)) (fun _ _ _ _ _ => pts_nil)
        (fun _ _ _ _ _ => pe_cmpR op_in_sign (pv 1) (pe_glob (v := .str (tx alpha)) rfl gS ⟨_, rfl⟩) rfl)) pa_nil)))))), ?_⟩
    cases ak with
    | set h => cases nr _ rfl
    | off ty _ ks => exact ⟨_, rfl, _, _, _, _, false, rfl, .ty "str", ty, ks, false, rfl, iteF (q H (Same.refl H))⟩
    | @txt l hl =>
      refine ⟨_, rfl, _, _, _, _, true, rfl, .ty "str", .base (.str _), kit_ty (by decide +kernel), true, rfl, iteT ?_⟩
      refine cb_one ?_
      refine lc_tx (l := l) (p := fun _ => true) (f := fun n => V.bl (decide (n ∈ alpha))) (i := 1) (Nat.le_trans hl (by decide)) (fun Q' z => ⟨_, rfl, z⟩) (fun _ => rfl) (fun n H2 Qb _ z => z) (fun n H2 Q' _ z => ⟨_, rfl, n, tx alpha, rfl, rfl, z⟩) fun D hD => ?_
      have eb : ((l.filter fun _ => true).map fun n => V.bl (decide (n ∈ alpha))) = (l.map fun n => decide (n ∈ alpha)).map V.bl := by
        rw [List.filter_eq_self.mpr (fun _ _ => rfl), List.map_map]
        rfl
      refine ⟨D, _, rfl, SqL.of (by rw [← eb]; exact upd_same), ?_⟩
      have ea : (l.map fun n => decide (n ∈ alpha)).all id = l.all fun n => decide (n ∈ alpha) := by
        rw [List.all_map]
        rfl
      rw [ea]
      exact q _ (same_new hD)
def spSigns (K : PySem.W.Frag) (C : Addr) : Sp := fun vs H Q _ => ∃ x b, vs = [x] ∧ Asked K C H x b ∧ Gives H Q (.bl b)
theorem ok_is_signs {f : Addr} {fd : FuncData} (F : FnP K "is_signs" "is_signs" s_is_signs f fd) (T : Txt K mg C) (N : Nms mg) (I : Can P w K mg base CX0 "is_sign_text" ["thing"] 1 (spTextA K C)) : FnOk P w K mg base CX0 2 f fd ["thing"] (spSigns K C) := by
  obtain ⟨fI, fdI, GI, gI, kI, bI⟩ := I
  refine F.ok sc_is_signs (fun vs H Q E h => ?_) (fun cdv A outer s H vs Q E hr h => ?_)
  · obtain ⟨x, b, rfl, _⟩ := h
    rfl
  · obtain ⟨x, b, rfl, ak, q⟩ := h
    refine ⟨_, PSs.nox (pss_one (ps_ret (pe_or (pe_callB call_isi (by rfl) N.isi (by decide +kernel) (pa_cons (pv 0) (pa_cons (pe_glob (v := .ref C) rfl T.gC rfl) pa_nil))) (pe_one (pe_call GI hr (by rfl) gI kI bI .nil pass0 (pa_cons (pv 0) pa_nil)))))), ?_⟩
    cases ak with
    | set h => exact ⟨_, rfl, _, _, _, _, true, rfl, .own C, T.ty h, T.kOwn, true, rfl, iteT (q H (Same.refl H))⟩
    | off ty kc ks => exact ⟨_, rfl, _, _, _, _, false, rfl, .own C, ty, kc, false, rfl, iteF ⟨_, rfl, _, false, rfl, .off ty kc ks, fun _ _ => rfl, q⟩⟩
    | @txt l hl => exact ⟨_, rfl, _, _, _, _, false, rfl, .own C, .base (.str _), T.kStr, false, rfl, iteF ⟨_, rfl, _, _, rfl, .txt hl, (fun a z => by cases z), q⟩⟩
/-- a new set of signs -/
def spInit (C : Addr) : Sp := fun vs H Q _ => ∃ p dx l, vs = [.ref p, .str (tx l)] ∧ H p = some (.ins C dx []) ∧ SgT l ∧ ∀ H', (∀ x o, H x = some o → x ≠ p → H' x = some o) → H' p = some (.ins C dx (flS (norm l))) → Q .non H'
theorem ok_init {f fT : Addr} {fd fdT : FuncData} (F : FunD K "__init__" "Signs.__init__" (defArgs s_Signs_init_) (defBody s_Signs_init_) (defScope s_Signs_init_) [.str ""] [] f fd) (T : Txt K mg C)
    (GT : FnOk P w K mg base CX0 1 fT fdT ["thing"] (spTextA K C)) (gT : mg "is_sign_text" = some (.ref fT)) (kT : PySem.W.keepIn K (.ref fT) = true) (bT : Binds K fdT ["thing"] []) : FnOk P w K mg base CX0 2 f fd ["self", "text"] (spInit C) := by
  have nd := sc_Signs_init_.nd
  refine F.ok sc_Signs_init_ (fun vs H Q E h => ?_) (fun cdv A outer s H vs Q E hr h => ?_)
  · obtain ⟨p, dx, l, rfl, _⟩ := h
    rfl
  · obtain ⟨p, dx, l, rfl, hp, hl, q⟩ := h
    obtain ⟨t, gS⟩ := T.sgn
    refine ⟨_, PSs.nox (pss_cons (ps_if (pt_not (pt_val (pe_call GT hr (by rfl) gT kT bT .nil pass0 (pa_cons (pv 1) pa_nil)))) (pss_one ps_never) pss_nil)
      (pss_one (ps_fld (pv 0) (pe_join pe_str (pe_lc (own := [("sign", 2)]) (g := gName 2) rfl nd (pi_str (pe_glob (v := .str (tx alpha)) rfl gS ⟨_, rfl⟩)) (blkOk_by (N := ["self", "text", "sign"]) (sc := defScope s_Signs_init_) (by decide +kernel)) (fun _ _ _ _ _ => pg_name (i := 2) nd rfl (Or.inl rfl))
      (fun _ _ _ _ _ => pts_one (pt_cmpR op_in_sign (pv 2) (pv 1) rfl)) (fun _ _ _ _ _ => pv 2))) rfl))), ?_⟩
    have al : (l.all fun n => decide (n ∈ alpha)) = true := List.all_eq_true.mpr fun n hn => decide_eq_true (hl.sub n hn)
    refine ⟨_, rfl, _, _, rfl, .txt hl.few, (fun a z => by cases z), fun H1 s1 => ⟨_, rfl, ?_⟩⟩
    rw [al]
    refine iteF ?_
    unfold tNext sFld
    dsimp only
    refine join_tx (i := 2) (p := fun n => decide (n ∈ l)) (l := alpha) rfl (by rw [alpha_len]; decide) (fun Q' z => z) (fun _ => rfl) (fun _ => rfl) (fun n H2 Qb _ z => ⟨_, rfl, _, rfl, n, tx l, rfl, rfl, _, rfl, z⟩) fun H2 s2 => ?_
    have hp2 := s2 _ _ (s1 _ _ hp)
    refine ⟨_, rfl, p, C, dx, _, rfl, hp2, T.cl, T.nS, (by show 0 < 1000; decide), ?_⟩
    refine q _ (fun x o e nx => ?_) upd_same
    rw [upd_ne nx]
    exact s2 _ _ (s1 _ _ e)
/-- how Signs(..) is made -/
def CanMk (P : Program) (w : World) (K : PySem.W.Frag) (mg : Str → Option Value) (base : Heap) (C : Addr) : Prop := ∃ f fd, Mk K C f ∧ FnOk P w K mg base CX0 2 f fd ["self", "text"] (spInit C) ∧ Binds K fd ["self", "text"] [] ∧ ∃ ds, Vals [.str ""] ds ∧ Binds K fd ["self", "text"] ds
/-- a new set of the signs S, beside a heap in which all stands as it stood -/
abbrev GivesSg (C : Addr) (H : Hp) (Q : VK) (S : List Nat) : Prop := ∀ (r : Addr) (H' : Hp), Same H H' → H r = none → Sg C H' r S → Q (.ref r) H'
/-- what the making of Signs(text) asks -/
theorem make_rd {H : Hp} {Q : VK} {l : List Nat} (hl : SgT l) (q : GivesSg C H Q (norm l)) : ∀ x dx, H x = none → H dx = none → dx ≠ x → spInit C (.ref x :: ([.str (tx l)] ++ [])) (upd (upd H dx (.own x)) x (.ins C dx [])) (fun v H2 => v = .non ∧ Q (.ref x) H2) E0 := by
  intro x dx hx hdx ne
  refine ⟨x, dx, l, rfl, upd_same, hl, fun H' k e => ⟨rfl, q x H' (fun b o z => k b o ?_ (ne_of_none z hx)) hx ⟨⟨dx, e⟩, norm_norm l⟩⟩⟩
  rw [upd_ne (ne_of_none z hx), upd_ne (ne_of_none z hdx)]
  exact z
def spOf (C : Addr) : Sp := fun vs H Q _ => ∃ x S, vs = [x] ∧ Opd C H x S ∧ Gives H Q (.str (tx S))
theorem ok_signs_of {f : Addr} {fd : FuncData} (F : FnP K "signs_of" "signs_of" s_signs_of f fd) (T : Txt K mg C) (N : Nms mg) (M : CanMk P w K mg base C) : FnOk P w K mg base CX0 4 f fd ["thing"] (spOf C) := by
  obtain ⟨fI, fdI, MI, GI, bI, _⟩ := M
  have nd := sc_signs_of.nd
  refine F.ok sc_signs_of (fun vs H Q E h => ?_) (fun cdv A outer s H vs Q E hr h => ?_)
  · obtain ⟨x, S, rfl, _⟩ := h
    rfl
  · obtain ⟨x, S, rfl, hx, q⟩ := h
    refine ⟨_, PSs.nox (pss_cons (ps_if (pt_val (pe_callB call_isi (by rfl) N.isi (by decide +kernel) (pa_cons (pv 0) (pa_cons (pe_glob (v := .ref C) rfl T.gC rfl) pa_nil)))) (pss_one (ps_ret (pe_fld (pv 0) rfl))) pss_nil)
      (pss_one (ps_ret (pe_fld (pe_make MI GI hr (by rfl) T.gC bI .nil pass0 (pa_cons (pv 0) pa_nil)) rfl)))), ?_⟩
    rcases hx with ⟨a, rfl, hS⟩ | ⟨l, rfl, hl, rfl⟩
    · refine ⟨_, rfl, _, _, _, _, true, rfl, .own C, T.ty hS, T.kOwn, true, rfl, iteT ?_⟩
      obtain ⟨⟨dx, e⟩, _⟩ := id hS
      exact ⟨_, rfl, a, C, dx, _, _, rfl, e, T.cl, T.nS, flS_signs S, q H fun _ _ z => z⟩
    · refine ⟨_, rfl, _, _, _, _, false, rfl, .own C, .base (.str _), T.kStr, false, rfl, iteF ?_⟩
      refine ⟨_, rfl, ?_⟩
      refine fun r dx hr0 hdx ne => ⟨r, dx, l, rfl, upd_same, hl, fun H' k e => ⟨rfl, r, C, dx, _, _, rfl, e, T.cl, T.nS, flS_signs _, q H' fun b o z => k b o ?_ (ne_of_none z hr0)⟩⟩
      rw [upd_ne (ne_of_none z hr0), upd_ne (ne_of_none z hdx)]
      exact z
end
end K02

set_option autoImplicit false
set_option maxErrors 4
namespace K02
open PySem PySem.Spec PyProof.Rows L2 Tl
/-! ### bounds, rows, short texts -/
/-- a value that is given as a bound -/
inductive Bn
  | int (n : Int)
  | none
  | other
def BnAt (K : PySem.W.Frag) (H : Hp) (v : V) : Bn → Prop
  | .int n => v = .int n
  | .none => v = .non
  | .other => NoInt K H v ∧ v ≠ .non
def boundsOk : Bn → Bn → Option (Nat × Option Nat)
  | .int l, .none => if 0 ≤ l ∧ l ≤ 40 then some (l.toNat, Option.none) else Option.none
  | .int l, .int m => if 0 ≤ l ∧ l ≤ 40 ∧ 1 ≤ m ∧ m ≤ 40 ∧ l ≤ m then some (l.toNat, some m.toNat) else Option.none
  | _, _ => Option.none
theorem bo_n (l : Int) : boundsOk (.int l) .none = if 0 ≤ l ∧ l ≤ 40 then some (l.toNat, Option.none) else Option.none := rfl
theorem bo_i (l m : Int) : boundsOk (.int l) (.int m) = if 0 ≤ l ∧ l ≤ 40 ∧ 1 ≤ m ∧ m ≤ 40 ∧ l ≤ m then some (l.toNat, some m.toNat) else Option.none := rfl
theorem noInt_non {K : PySem.W.Frag} {H : Hp} : NoInt K H .non := ⟨.type "NoneType", false, false, .base .non, kit_ty (by decide +kernel), kit_ty (by decide +kernel), rfl⟩
theorem noInt_bl {K : PySem.W.Frag} {H : Hp} (b : Bool) : NoInt K H (.bl b) := ⟨.type "bool", true, true, .base (.bl b), kit_ty (by decide +kernel), kit_ty (by decide +kernel), rfl⟩
theorem noInt_str {K : PySem.W.Frag} {H : Hp} (z : Str) : NoInt K H (.str z) := ⟨.type "str", false, false, .base (.str z), kit_ty (by decide +kernel), kit_ty (by decide +kernel), rfl⟩
theorem noInt_lst {K : PySem.W.Frag} {H : Hp} {a : Addr} {xs : List V} (e : H a = some (.lst xs)) : NoInt K H (.ref a) := ⟨.type "list", false, false, .base (.lst e), kit_ty (by decide +kernel), kit_ty (by decide +kernel), rfl⟩
theorem tyX_same {K : PySem.W.Frag} {H H' : Hp} {x : V} {t : Value} (h : TyX K H x t) (s : Same H H') : TyX K H' x t := by
  cases h with
  | base b =>
    cases b with
    | non => exact .base .non
    | bl b => exact .base (.bl b)
    | int i => exact .base (.int i)
    | str z => exact .base (.str z)
    | flt z => exact .base (.flt z)
    | lst e => exact .base (.lst (s _ _ e))
    | frz e => exact .base (.frz (s _ _ e))
    | tup e => exact .base (.tup (s _ _ e))
    | dK e => exact .base (.dK (s _ _ e))
    | dT e => exact .base (.dT (s _ _ e))
    | ins e cl a b c d => exact .base (.ins (s _ _ e) cl a b c d)
  | byt b => exact .byt b
  | set e => exact .set (s _ _ e)
  | kList e c => exact .kList e c
  | kTuple e c => exact .kTuple e c
  | kDict e c => exact .kDict e c
  | fTuple e => exact .fTuple (s _ _ e)
  | fDict e => exact .fDict (s _ _ e)
theorem noInt_same {K : PySem.W.Frag} {H H' : Hp} {x : V} (h : NoInt K H x) (s : Same H H') : NoInt K H' x := by
  obtain ⟨t, b1, b2, ty, r⟩ := h
  exact ⟨t, b1, b2, tyX_same ty s, r⟩
theorem BnAt.same {K : PySem.W.Frag} {H H' : Hp} {v : V} {b : Bn} (h : BnAt K H v b) (s : Same H H') : BnAt K H' v b := by
  cases b with
  | int n => exact h
  | none => exact h
  | other => exact ⟨noInt_same h.1 s, h.2⟩
theorem kit2 {K : PySem.W.Frag} {t : Value} {b1 b2 : Bool} (k1 : PySem.W.kitOne K t (.type "list") = some b1) (k2 : PySem.W.kitOne K t (.type "tuple") = some b2) : PySem.W.kitAny K t [.type "list", .type "tuple"] = some (b1 || b2) := by
  unfold PySem.W.kitAny
  rw [k1]
  cases b1 with
  | true => rfl
  | false =>
    show PySem.W.kitAny K t [.type "tuple"] = _
    unfold PySem.W.kitAny
    rw [k2]
    cases b2 <;> rfl
section
variable {P : Program} {w : World} {K : PySem.W.Frag} {mg : Str → Option Value} {base : Heap} {C : Addr}
def spBounds (K : PySem.W.Frag) : Sp := fun vs H Q _ => ∃ (x y : V) (a b : Bn), vs = [x, y] ∧ BnAt K H x a ∧ BnAt K H y b ∧ Q (.bl (boundsOk a b).isSome) H
theorem ok_bounds {f : Addr} {fd : FuncData} (F : FnP K "are_bounds" "are_bounds" s_are_bounds f fd) (Co : Cons mg) (I : Can P w K mg base CX0 "is_integer_within" ["thing", "low", "high"] 2 (spWithin K)) : FnOk P w K mg base CX0 3 f fd ["least", "most"] (spBounds K) := by
  obtain ⟨fI, fdI, GI, gI, kI, bI⟩ := I
  obtain ⟨tB, gB⟩ := Co.bound
  refine F.ok sc_are_bounds (fun vs H Q E h => ?_) (fun cdv A outer s H vs Q E hr h => ?_)
  · obtain ⟨x, y, a, b, rfl, _⟩ := h
    rfl
  · obtain ⟨x, y, a, b, rfl, ha, hb, q⟩ := h
    refine ⟨_, PSs.nox (pss_cons (ps_if (pt_not (pt_val (pe_call GI hr (by rfl) gI kI bI .nil pass0 (pa_cons (pv 0) (pa_cons pe_int (pa_cons (pe_glob (v := .int 40) (by rfl) gB ⟨_, rfl⟩) pa_nil)))))) (pss_one (ps_ret pe_bl)) pss_nil)
      (pss_one (ps_ret (pe_or (pe_cmpR op_isN (pv 1) pe_non (nomark _)) (pe_one (pe_and (pe_call GI hr (by rfl) gI kI bI .nil pass0 (pa_cons (pv 1) (pa_cons pe_int (pa_cons (pe_glob (v := .int 40) (by rfl) gB ⟨_, rfl⟩) pa_nil)))) (pe_one (pe_cmpR op_le (pv 0) (pv 1) (nomark _))))))))), ?_⟩
    refine ⟨_, rfl, x, 0, 40, rfl, ?_⟩
    cases a with
    | none =>
      cases ha
      have e : (boundsOk .none b).isSome = false := by cases b <;> rfl
      rw [e] at q
      exact .inr ⟨noInt_non, _, rfl, iteT q⟩
    | other =>
      have e : (boundsOk .other b).isSome = false := by cases b <;> rfl
      rw [e] at q
      exact .inr ⟨ha.1, _, rfl, iteT q⟩
    | int l =>
      cases ha
      refine .inl ⟨l, rfl, _, rfl, ?_⟩
      by_cases hl : 0 ≤ l ∧ l ≤ 40
      · rw [decide_eq_true hl]
        refine iteF ?_
        cases b with
        | none =>
          cases hb
          refine ⟨_, rfl, rfl, true, rfl, iteT ?_⟩
          have e : (boundsOk (.int l) .none).isSome = true := by rw [bo_n, if_pos hl]; rfl
          rw [e] at q
          exact q
        | other =>
          refine ⟨_, rfl, rfl, false, congrArg V.bl (decide_eq_false hb.2), iteF ?_⟩
          exact ⟨_, rfl, y, 1, 40, rfl, .inr ⟨hb.1, false, rfl, iteF q⟩⟩
        | int m =>
          cases hb
          refine ⟨_, rfl, rfl, false, rfl, iteF ?_⟩
          refine ⟨_, rfl, _, 1, 40, rfl, .inl ⟨m, rfl, _, rfl, ?_⟩⟩
          by_cases hm : 1 ≤ m ∧ m ≤ 40
          · rw [decide_eq_true hm]
            refine iteT ?_
            refine ⟨_, rfl, _, rfl, _, _, rfl, rfl, ?_⟩
            have e : (boundsOk (.int l) (.int m)).isSome = decide (l ≤ m) := by
              rw [bo_i]
              by_cases z : l ≤ m
              · rw [if_pos ⟨hl.1, hl.2, hm.1, hm.2, z⟩, decide_eq_true z]
                rfl
              · rw [if_neg (fun y => z y.2.2.2.2), decide_eq_false z]
                rfl
            rw [e] at q
            exact q
          · rw [decide_eq_false hm]
            refine iteF ?_
            have e : (boundsOk (.int l) (.int m)).isSome = false := by
              rw [bo_i]
              rw [if_neg (fun y => hm ⟨y.2.2.1, y.2.2.2.1⟩)]
              rfl
            rw [e] at q
            exact q
      · rw [decide_eq_false hl]
        refine iteT ?_
        have e : (boundsOk (.int l) b).isSome = false := by
          cases b with
          | none => rw [bo_n, if_neg hl]; rfl
          | int m => rw [bo_i, if_neg (fun y => hl ⟨y.1, y.2.1⟩)]; rfl
          | other => rfl
        rw [e] at q
        exact q
end
end K02

set_option autoImplicit false
set_option maxErrors 4
namespace K02
open PySem PySem.Spec PyProof.Rows L2 Tl
/-! ### Kind(rows) -/
section
variable {H H' : Hp}
mutual
theorem nkT (s : ∀ b xs, H b = some (.tup xs) → H' b = some (.tup xs)) : ∀ (k : NestedKey) (v : V), NkV H k v → NkV H' k v
  | .none, _, x => by cases x; exact .non
  | .num i, _, x => by cases x; exact .int i
  | .text z, _, x => by cases x; exact .str z
  | .tup ks, _, x => by
    cases x with
    | tup e al => exact .tup (s _ _ e) (nkTA s ks _ al)
theorem nkTA (s : ∀ b xs, H b = some (.tup xs) → H' b = some (.tup xs)) : ∀ (ks : List NestedKey) (vs : List V), NkAll H ks vs → NkAll H' ks vs
  | [], _, x => by cases x; exact .nil
  | k :: ks, _, x => by
    cases x with
    | cons x1 x2 => exact .cons (nkT s k _ x1) (nkTA s ks _ x2)
end
end
theorem RowsAt.tups {H H' : Hp} {rs : Rws} (h : RowsAt H rs) (s : ∀ b xs, H b = some (.tup xs) → H' b = some (.tup xs)) : RowsAt H' rs := fun x hx => nkT s _ _ (h x hx)
/-- all but p stands as it stood -/
def But (p : Addr) (H H' : Hp) : Prop := ∀ x o, H x = some o → x ≠ p → H' x = some o
/-- a class of no arguments that is raised -/
structure Plain (K : PySem.W.Frag) (mg : Str → Option Value) (x : Str) (C : Addr) : Prop where
  g : mg x = some (.ref C)
  e : PySem.W.excIn K C He.veBase "ValueError.__new__" = true
  k : PySem.W.keepIn K (.ref C) = true
  s : PySem.W.subIn K (.ref C) (.type "BaseException") = some true
  t : PySem.W.typeIn K (.ref C) = some (.type "type")
theorem pmk_plain {X : Cx} {x : Str} {C : Addr} {p pos : Pos} (h : Plain X.K X.mg x C) (hg : Gl X x) (hdb : (x == ("__debug__" : Str)) = false := by decide) : L2N.PMk X (.Call (.Name x p) [] [] pos) (fun _ H Q => Q (.ref C) none H) :=
  pmkN_own0 F.excBase_ValueError h.e h.g h.k (raises_own h.s h.t) hg hdb
/-- what is asked of the class Kind -/
structure KindC (K : PySem.W.Frag) (KC : Addr) : Prop where
  cl : Cls K KC
  n1 : NoAttr K KC "rows"
  n2 : NoAttr K KC "net"
/-- the alternatives keep to the bounds of nets -/
def RowsOk (rs : Rws) : Prop := ∀ x ∈ rs, ∀ r ∈ x.1, RunOk r
theorem onceR_ok {rs : Rws} (h : RowsOk rs) : RowsOk (onceR rs) := fun x hx => h x (onceR_sub x hx)
theorem onceR_len (rs : Rws) : (onceR rs).length ≤ rs.length := by
  have z := onceR_take_len rs rs.length
  rw [List.take_of_length_le (Nat.le_refl _)] at z
  exact z
abbrev kindF (t n : Addr) : List (Str × V) := [("rows", .ref t), ("net", .ref n)]
theorem sum_mem {xs : List Nat} {x : Nat} (h : x ∈ xs) : x ≤ xs.sum := by
  induction xs with
  | nil => cases h
  | cons y r ih =>
    rw [List.sum_cons]
    rcases List.mem_cons.mp h with rfl | h
    · omega
    · have := ih h
      omega
theorem placesRs_mem {rs : Rws} {x : RowL × Addr} (h : x ∈ rs) : (placesR x.1).sum ≤ (placesRs rs).sum := by
  unfold placesRs
  induction rs with
  | nil => cases h
  | cons y r ih =>
    rw [List.flatMap_cons, List.sum_append]
    rcases List.mem_cons.mp h with rfl | h
    · omega
    · have := ih h
      omega
theorem charsOf_alts {rs : Rws} (h : RowsOk rs) (small : (placesRs rs).sum ≤ 500) : charsOf ((rs.map (·.1)).map altN) = (placesRs rs).sum := by
  unfold charsOf placesRs
  induction rs with
  | nil => rfl
  | cons y r ih =>
    have hy := placesRs_mem (rs := y :: r) (x := y) List.mem_cons_self
    have hr : (placesRs r).sum ≤ 500 := by
      unfold placesRs at small ⊢
      rw [List.flatMap_cons, List.sum_append] at small
      omega
    rw [List.flatMap_cons, List.sum_append, List.map_cons, List.map_cons, List.map_cons, List.sum_cons, ih (fun x hx => h x (List.mem_cons_of_mem _ hx)) hr, (altN_ok (h y List.mem_cons_self) (by omega)).2]
section
variable {P : Program} {w : World} {K : PySem.W.Frag} {mg : Str → Option Value} {base : Heap} {NC KC BK : Addr}
def spKInit (NC KC BK : Addr) : Sp := fun vs H Q E => ∃ (p dx l : Addr) (rs : Rws), vs = [.ref p, .ref l] ∧ H p = some (.ins KC dx []) ∧ (H l = some (.lst (rowsV rs)) ∨ H l = some (.tup (rowsV rs))) ∧ RowsAt H rs ∧ rs.length ≤ 1000 ∧ RowsOk rs ∧
  ((tooLarge (onceR rs) = true ∧ ∀ H', But p H H' → E (.ref BK) none H') ∨
   (tooLarge (onceR rs) = false ∧ ∀ t n H', But p H H' → H t = none → H' p = some (.ins KC dx (kindF t n)) → H' t = some (.tup (rowsV (onceR rs))) → NetFar NC H H' n (kindN ((onceR rs).map (·.1))) → Q .non H'))
set_option maxHeartbeats 20000000 in
theorem ok_kinit {f : Addr} {fd : FuncData} (F : FnP K "__init__" "Kind.__init__" s_Kind_init_ f fd) (T : KindC K KC) (PB : Plain K mg "BadKind" BK) (W : Can P w K mg base CX0 "without_repeats" ["rows"] 1 spWr) (L : Can P w K mg base CX0 "is_too_large" ["rows"] 2 spToo)
    (S : Can P w K mg base CX0 "side_by_side" ["nets"] 4 (spNets NC sideL)) (A : Can P w K mg base CX0 "alternative_net" ["row"] 5 (spAlt NC)) : FnOk P w K mg base (L2N.CX P w) 6 f fd ["self", "rows"] (spKInit NC KC BK) := by
  obtain ⟨fW, fdW, GW, gW, kW, bW⟩ := W
  obtain ⟨fL, fdL, GL, gL, kL, bL⟩ := L
  obtain ⟨fS, fdS, GS, gS, kS, bS⟩ := S
  obtain ⟨fA, fdA, GA, gA, kA, bA⟩ := A
  have nd := sc_Kind_init_.nd
  refine F.ok sc_Kind_init_ (fun vs H Q E h => ?_) (fun cdv A outer s H vs Q E hr h => ?_)
  · obtain ⟨p, dx, l, rs, rfl, _⟩ := h
    rfl
  · obtain ⟨p, dx, l, rs, rfl, hp, hl, at_, len, ok, q⟩ := h
    have tk := L2N.takes_of (X := cxOf (L2N.CX P w) P w K mg base ["self", "rows", "row"] "Kind.__init__" (defScope s_Kind_init_) f cdv A outer s H E) (E := E) rfl rfl rfl rfl
    have r4 := hr.mono (show 4 ≤ 5 by decide)
    have r2 := hr.mono (show 2 ≤ 5 by decide)
    have r1 := hr.mono (show 1 ≤ 5 by decide)
    refine ⟨_, pss_cons (ps_fld (pv 0) (pe_call GW r1 (by rfl) gW kW bW .nil pass0 (pa_cons (pv 1) pa_nil)) rfl)
      (pss_cons (ps_if (pt_val (pe_call GL r2 (by rfl) gL kL bL .nil pass0 (pa_cons (pe_fld (pv 0) rfl) pa_nil))) (pss_one (L2N.ps_raise rfl tk (pmk_plain PB rfl))) pss_nil)
      (pss_one (ps_fld (pv 0) (pe_call GS r4 (by rfl) gS kS bS .nil pass0 (pa_cons (pe_lc (own := [("row", 2)]) (g := gName 2) (tt := tYes) rfl nd (pi_tup (pe_fld (pv 0) rfl)) (blkOk_by (N := ["self", "rows", "row"]) (sc := defScope s_Kind_init_) (by decide +kernel))
        (fun _ _ _ _ _ => pg_name (i := 2) nd rfl (Or.inl rfl)) (fun _ _ _ _ _ => pts_nil) (fun _ _ _ _ _ => pe_call GA hr (by rfl) gA kA bA .nil pass0 (pa_cons (pv 2) pa_nil))) pa_nil)) rfl))), ?_⟩
    refine ⟨_, rfl, l, rs, rfl, hl, at_, len, fun t H1 s1 ht0 ht => ?_⟩
    refine ⟨_, rfl, p, KC, dx, _, rfl, s1 _ _ hp, T.cl, T.n1, (by show 0 < 1000; decide), ?_⟩
    have ntp : t ≠ p := fun z => by rw [z, hp] at ht0; cases ht0
    have e1 : upd H1 p (.ins KC dx [("rows", .ref t)]) t = some (.tup (rowsV (onceR rs))) := by
      rw [upd_ne ntp]
      exact ht
    have tups : ∀ b xs, H1 b = some (.tup xs) → upd H1 p (.ins KC dx [("rows", .ref t)]) b = some (.tup xs) := fun b xs z => by
      by_cases e : b = p
      · rw [e, s1 _ _ hp] at z
        cases z
      · rw [upd_ne e]
        exact z
    have at1 : RowsAt (upd H1 p (.ins KC dx [("rows", .ref t)])) (onceR rs) := RowsAt.tups (fun x hx => ((at_.same s1) x (onceR_sub x hx))) tups
    have len1 : (onceR rs).length ≤ 1000 := Nat.le_trans (onceR_len rs) len
    have b1 : But p H (upd H1 p (.ins KC dx [("rows", .ref t)])) := fun x o e n => by
      rw [upd_ne n]
      exact s1 _ _ e
    show _
    refine ⟨_, rfl, p, KC, dx, _, _, rfl, upd_same, T.cl, T.n1, lk_hit, ?_⟩
    refine ⟨t, onceR rs, rfl, e1, at1, len1, fun H2 s2 => ⟨_, rfl, ?_⟩⟩
    rcases q with ⟨big, q⟩ | ⟨small, q⟩
    · rw [big]
      refine iteT ?_
      exact q _ fun x o e n => s2 _ _ (b1 x o e n)
    rw [small]
    refine iteF ?_
    have sums : (placesRs (onceR rs)).sum ≤ 120 ∧ (onceR rs).length ≤ 20 ∧ ∀ x ∈ onceR rs, x.1.length ≤ 20 := by
      unfold tooLarge at small
      rw [Bool.or_eq_false_iff, Bool.or_eq_false_iff] at small
      obtain ⟨⟨a1, a2⟩, a3⟩ := small
      have a1 := of_decide_eq_false a1
      have a3 := of_decide_eq_false a3
      refine ⟨by omega, by omega, fun x hx => ?_⟩
      have z := List.any_eq_false.mp a2 x hx
      simp only [decide_eq_true_eq] at z
      omega
    have hp2 := s2 _ _ (upd_same (H := H1) (a := p) (o := .ins KC dx [("rows", .ref t)]))
    have ht2 := s2 _ _ e1
    have at2 := at1.same s2
    have ok2 := onceR_ok ok
    have lenV : (rowsV (onceR rs)).length = (onceR rs).length := List.length_map _
    show _
    refine ⟨_, rfl, p, KC, dx, _, _, rfl, hp2, T.cl, T.n1, lk_hit, t, rfl, ⟨_, SqT.of ht2⟩, fun D hD => ?_⟩
    refine lc_it (n := (onceR rs).length) (by rw [← lenV]; exact walk_tup) (fun j H' => ∃ ps : Prs, H' D = some (.lst (refsP ps)) ∧ netsP ps = (((onceR rs).take j).map (·.1)).map altN ∧ (∀ x ∈ ps, NetOff NC D H' x.1 x.2 ∧ x.2.Ok) ∧ Same H2 H') ⟨[], upd_same, rfl, (fun x hx => by cases hx), same_new hD⟩ (fun j H' _ h => by
      obtain ⟨_, _, _, _, sm⟩ := h
      exact SqT.of (sm _ _ ht2)) ?_ ?_
    · rintro j y _ H3 hj ⟨ps, e4, en, na, sm⟩ ⟨rfl, hy⟩
      have ey : y = .ref (onceR rs)[j].2 := by
        unfold rowsV at hy
        rw [List.getElem?_map, List.getElem?_eq_getElem hj] at hy
        exact (Option.some.inj hy).symm
      subst ey
      have mem := List.getElem_mem hj
      have pl := placesRs_mem mem
      refine ⟨rfl, yes_keep ?_⟩
      refine ⟨_, rfl, _, (onceR rs)[j].1, rfl, ((at2 _ mem).same sm), ok2 _ mem, by omega, (Nat.le_trans (sums.2.2 _ mem) (by decide)), fun n nc nf H4 s4 hn0 hnc hnf nat => ?_⟩
      have eD := s4 _ _ e4
      have lp : ps.length = j := by
        have z := congrArg List.length en
        unfold netsP at z
        rw [List.length_map, List.length_map, List.length_map, List.length_take] at z
        omega
      have keep : ∀ b o, b ≠ D → H4 b = some o → (upd H4 D (.lst (refsP ps ++ [.ref n]))) b = some o := fun b o nb z => by
        rw [upd_ne nb]
        exact z
      have okn := altN_ok (ok2 _ mem) (show (placesR (onceR rs)[j].1).sum ≤ 500 by omega)
      refine ⟨_, eD, ?_, ps ++ [(n, altN (onceR rs)[j].1)], ?_, ?_, ?_, fun b o z => ?_⟩
      · unfold refsP
        rw [List.length_map, lp]
        exact small1000 (by omega)
      · rw [upd_same]
        unfold refsP
        rw [List.map_append]
        rfl
      · unfold netsP at en ⊢
        rw [List.map_append, en, List.take_add_one, List.getElem?_eq_getElem hj, List.map_append, List.map_append]
        rfl
      · intro x hx
        rcases List.mem_append.mp hx with hx | hx
        · exact ⟨((na x hx).1.same fun b o _ z => s4 _ _ z).same keep, (na x hx).2⟩
        · rw [List.mem_singleton.mp hx]
          exact ⟨(nat.off hn0 hnc hnf e4).same keep, okn.1⟩
      · rw [upd_ne (ne_of_none z hD)]
        exact s4 _ _ (sm _ _ z)
    · rintro H3 ⟨ps, e4, en, na, sm⟩
      rw [List.take_of_length_le (Nat.le_refl _)] at en
      refine ⟨D, ps, rfl, e4, fun x hx => ⟨(na x hx).1.at, (na x hx).2⟩, ?_, ?_⟩
      · rw [en, charsOf_alts ok2 (by omega)]
        omega
      · rw [en]
        refine fun n nc nf H4 s4 hn hc hf net => ?_
        have hp4 := s4 _ _ (sm _ _ hp2)
        have ht4 := s4 _ _ (sm _ _ ht2)
        refine ⟨_, rfl, p, KC, dx, _, rfl, hp4, T.cl, T.n2, (by show 1 < 1000; decide), ?_⟩
        refine q t n _ (fun x o e nx => ?_) ht0 ?_ ?_ (((net.far hn hc hf).from (H0 := H) fun x hx => ?_).keep fun b o hb z => ?_)
        · rw [upd_ne nx]
          exact s4 _ _ (sm _ _ (s2 _ _ (b1 x o e nx)))
        · rw [upd_same]
          rfl
        · rw [upd_ne ntp]
          exact ht4
        · cases e : H x with
          | none => rfl
          | some o =>
            by_cases ep : x = p
            · rw [ep, sm _ _ hp2] at hx
              cases hx
            · rw [sm _ _ (s2 _ _ (b1 x o e ep))] at hx
              cases hx
        · rw [upd_ne (fun ep => by rw [ep, hp] at hb; cases hb)]
          exact z
end
end K02

set_option autoImplicit false
set_option maxErrors 4
namespace K02
open PySem PySem.Spec PyProof.Rows L2 Tl
/-! ### Kind.run, Kind.words -/
/-- a kind stands at k -/
def KindAt (KC NC : Addr) (H : Hp) (k : Addr) (rows : List RowL) : Prop := ∃ (dx t n : Addr) (rs : Rws), H k = some (.ins KC dx (kindF t n)) ∧ H t = some (.tup (rowsV rs)) ∧ rs.map (·.1) = rows ∧ RowsAt H rs ∧ NetAt NC H n (kindN rows)
theorem KindAt.same {KC NC : Addr} {H H' : Hp} {k : Addr} {rows : List RowL} (h : KindAt KC NC H k rows) (s : Same H H') : KindAt KC NC H' k rows := by
  obtain ⟨dx, t, n, rs, h1, h2, h3, h4, h5⟩ := h
  exact ⟨dx, t, n, rs, s _ _ h1, s _ _ h2, h3, h4.same s, h5.same s⟩
/-- the same, its net left aside -/
def KindL (KC : Addr) (H : Hp) (k : Addr) (rows : List RowL) : Prop := ∃ (dx t n : Addr) (rs : Rws), H k = some (.ins KC dx (kindF t n)) ∧ H t = some (.tup (rowsV rs)) ∧ rs.map (·.1) = rows ∧ RowsAt H rs
theorem KindAt.lite {KC NC : Addr} {H : Hp} {k : Addr} {rows : List RowL} (h : KindAt KC NC H k rows) : KindL KC H k rows := by
  obtain ⟨dx, t, n, rs, h1, h2, h3, h4, _⟩ := h
  exact ⟨dx, t, n, rs, h1, h2, h3, h4⟩
theorem KindL.same {KC : Addr} {H H' : Hp} {k : Addr} {rows : List RowL} (h : KindL KC H k rows) (s : Same H H') : KindL KC H' k rows := by
  obtain ⟨dx, t, n, rs, h1, h2, h3, h4⟩ := h
  exact ⟨dx, t, n, rs, s _ _ h1, s _ _ h2, h3, h4.same s⟩
/-- instances and tuples stay -/
theorem KindL.stay {KC : Addr} {H H' : Hp} {k : Addr} {rows : List RowL} (h : KindL KC H k rows) (si : ∀ a C dx fs, H a = some (.ins C dx fs) → H' a = some (.ins C dx fs)) (st : ∀ b xs, H b = some (.tup xs) → H' b = some (.tup xs)) : KindL KC H' k rows := by
  obtain ⟨dx, t, n, rs, h1, h2, h3, h4⟩ := h
  exact ⟨dx, t, n, rs, si _ _ _ _ h1, st _ _ h2, h3, h4.tups st⟩
/-- a kind whose net was made after H0 -/
def KindN (KC NC : Addr) (H0 H : Hp) (k : Addr) (rows : List RowL) : Prop := ∃ (dx t n : Addr) (rs : Rws), H k = some (.ins KC dx (kindF t n)) ∧ H t = some (.tup (rowsV rs)) ∧ rs.map (·.1) = rows ∧ RowsAt H rs ∧ NetFar NC H0 H n (kindN rows)
theorem KindN.lite {KC NC : Addr} {H0 H : Hp} {k : Addr} {rows : List RowL} (h : KindN KC NC H0 H k rows) : KindL KC H k rows := by
  obtain ⟨dx, t, n, rs, h1, h2, h3, h4, _⟩ := h
  exact ⟨dx, t, n, rs, h1, h2, h3, h4⟩
theorem KindN.at {KC NC : Addr} {H0 H : Hp} {k : Addr} {rows : List RowL} (h : KindN KC NC H0 H k rows) : KindAt KC NC H k rows := by
  obtain ⟨dx, t, n, rs, h1, h2, h3, h4, h5⟩ := h
  exact ⟨dx, t, n, rs, h1, h2, h3, h4, h5.at⟩
theorem KindN.same {KC NC : Addr} {H0 H H' : Hp} {k : Addr} {rows : List RowL} (h : KindN KC NC H0 H k rows) (s : Same H H') : KindN KC NC H0 H' k rows := by
  obtain ⟨dx, t, n, rs, h1, h2, h3, h4, h5⟩ := h
  exact ⟨dx, t, n, rs, s _ _ h1, s _ _ h2, h3, h4.same s, h5.keep fun b o _ z => s _ _ z⟩
theorem KindN.from {KC NC : Addr} {H0 H1 H : Hp} {k : Addr} {rows : List RowL} (h : KindN KC NC H1 H k rows) (s : Same H0 H1) : KindN KC NC H0 H k rows := by
  obtain ⟨dx, t, n, rs, h1, h2, h3, h4, h5⟩ := h
  exact ⟨dx, t, n, rs, h1, h2, h3, h4, h5.from fun x hx => s.free hx⟩
/-- instances, tuples and all that is new stay -/
theorem KindN.stay {KC NC : Addr} {H0 H H' : Hp} {k : Addr} {rows : List RowL} (h : KindN KC NC H0 H k rows) (si : ∀ a C dx fs, H a = some (.ins C dx fs) → H' a = some (.ins C dx fs)) (st : ∀ b xs, H b = some (.tup xs) → H' b = some (.tup xs)) (sn : ∀ b o, H0 b = none → H b = some o → H' b = some o) : KindN KC NC H0 H' k rows := by
  obtain ⟨dx, t, n, rs, h1, h2, h3, h4, h5⟩ := h
  exact ⟨dx, t, n, rs, si _ _ _ _ h1, st _ _ h2, h3, h4.tups st, h5.keep sn⟩
abbrev GivesKind (KC NC : Addr) (H : Hp) (Q : VK) (rows : List RowL) : Prop := ∀ (k : Addr) (H' : Hp), Same H H' → H k = none → KindAt KC NC H' k rows → Q (.ref k) H'
abbrev Raised (H : Hp) (E : XK) (C : Addr) : Prop := ∀ H', Same H H' → E (.ref C) none H'
/-- what is kept of rows, each where it stands first -/
def putL (acc : List RowL) (r : RowL) : List RowL := if r ∈ acc then acc else acc ++ [r]
def onceL (rows : List RowL) : List RowL := rows.foldl putL []
theorem onceR_fst (rs : Rws) : (onceR rs).map (·.1) = onceL (rs.map (·.1)) := by
  have key : ∀ (xs acc : Rws), (xs.foldl putR acc).map (·.1) = (xs.map (·.1)).foldl putL (acc.map (·.1)) := by
    intro xs
    induction xs with
    | nil => exact fun _ => rfl
    | cons x xs ih =>
      intro acc
      rw [List.foldl_cons, List.map_cons, List.foldl_cons, ih]
      congr 1
      unfold putR putL
      split
      · rfl
      · rw [List.map_append]
        rfl
  exact key rs []
/-- too many alternatives, runs, places -/
def bigL (rows : List RowL) : Bool := decide (20 < rows.length) || (rows.any fun r => decide (20 < r.length)) || decide (120 < (rows.flatMap placesR).sum)
theorem tooLarge_fst (rs : Rws) : tooLarge rs = bigL (rs.map (·.1)) := by
  unfold tooLarge bigL placesRs
  rw [List.length_map, List.any_map, List.flatMap_map]
  rfl
theorem onceL_sub {rows : List RowL} : ∀ r ∈ onceL rows, r ∈ rows := by
  have key : ∀ (xs acc : List RowL), ∀ y ∈ xs.foldl putL acc, y ∈ acc ∨ y ∈ xs := by
    intro xs
    induction xs with
    | nil => exact fun acc y h => .inl h
    | cons x xs ih =>
      intro acc y h
      rcases ih _ y h with h | h
      · unfold putL at h
        split at h
        · exact .inl h
        · rcases List.mem_append.mp h with h | h
          · exact .inl h
          · exact .inr (by rw [List.mem_singleton.mp h]; exact List.mem_cons_self)
      · exact .inr (List.mem_cons_of_mem _ h)
  intro y h
  exact (key rows [] y h).elim (fun z => by cases z) id
/-- a kind or its refusal -/
def Out (KC NC BK : Addr) (H : Hp) (Q : VK) (E : XK) (rows : List RowL) : Prop := (bigL (onceL rows) = true → Raised H E BK) ∧ (bigL (onceL rows) = false → ∀ (k : Addr) (H' : Hp), Same H H' → KindN KC NC H H' k (onceL rows) → Q (.ref k) H')
section
variable {KC NC BK : Addr}
theorem make_kind {H : Hp} {Q : VK} {E : XK} {l : Addr} {rs : Rws} (hl : H l = some (.lst (rowsV rs)) ∨ H l = some (.tup (rowsV rs))) (at_ : RowsAt H rs) (len : rs.length ≤ 1000) (ok : RowsOk rs) (q : Out KC NC BK H Q E (rs.map (·.1))) :
    ∀ x dx, H x = none → H dx = none → dx ≠ x → spKInit NC KC BK (.ref x :: ([.ref l] ++ [])) (upd (upd H dx (.own x)) x (.ins KC dx [])) (fun v H2 => v = .non ∧ Q (.ref x) H2) E := by
  intro x dx hx hdx ne
  have far : Same H (upd (upd H dx (.own x)) x (.ins KC dx [])) := fun b o e => by
    rw [upd_ne (ne_of_none e hx), upd_ne (ne_of_none e hdx)]
    exact e
  have onw : ∀ {H'}, But x (upd (upd H dx (.own x)) x (.ins KC dx [])) H' → Same H H' := fun k b o e => k b o (far b o e) (ne_of_none e hx)
  refine ⟨x, dx, l, rs, rfl, upd_same, hl.imp (far _ _) (far _ _), at_.same far, len, ok, ?_⟩
  obtain ⟨q1, q2⟩ := q
  rw [tooLarge_fst, onceR_fst]
  cases hb : bigL (onceL (rs.map (·.1))) with
  | true => exact .inl ⟨rfl, fun H' k => q1 hb H' (onw k)⟩
  | false => exact .inr ⟨rfl, fun t n H' k ht hk et en => ⟨rfl, q2 hb x H' (onw k) ⟨dx, t, n, onceR rs, hk, et, onceR_fst rs, fun y hy => (at_.same (onw k)) y (onceR_sub y hy), onceR_fst rs ▸ en.from fun x hx => far.free hx⟩⟩⟩
end
/-- what is shown to run as signs -/
inductive Spl (K : PySem.W.Frag) (C : Addr) (H : Hp) : V → Option (List Nat) → Prop
  | set {a : Addr} {S : List Nat} : Sg C H a S → Spl K C H (.ref a) (some S)
  | txt {l : List Nat} : SgT l → Spl K C H (.str (tx l)) (some (norm l))
  | bad {l : List Nat} : l.length ≤ 2000 → (l.all fun n => decide (n ∈ alpha)) = false → Spl K C H (.str (tx l)) none
  | off {x : V} {t : Value} : TyX K H x t → PySem.W.kitOne K t (.ref C) = some false → PySem.W.kitOne K t (.type "str") = some false → Spl K C H x none
theorem Sg.same {C : Addr} {H H' : Hp} {a : Addr} {S : List Nat} (h : Sg C H a S) (s : Same H H') : Sg C H' a S := h.at fun _ e => s _ _ e
theorem Spl.same {K : PySem.W.Frag} {C : Addr} {H H' : Hp} {x : V} {S : Option (List Nat)} (h : Spl K C H x S) (s : Same H H') : Spl K C H' x S := by
  cases h with
  | set g => exact .set (g.same s)
  | txt g => exact .txt g
  | bad g e => exact .bad g e
  | off t a b => exact .off (tyX_same t s) a b
theorem Spl.ask {K : PySem.W.Frag} {C : Addr} {H : Hp} {x : V} {S : Option (List Nat)} (h : Spl K C H x S) : Asked K C H x S.isSome := by
  cases h with
  | set g => exact .set g
  | @txt l g =>
    have z := Asked.txt (K := K) (C := C) (H := H) g.few
    rw [List.all_eq_true.mpr fun n hn => decide_eq_true (g.sub n hn)] at z
    exact z
  | bad g e =>
    have z := Asked.txt (K := K) (C := C) (H := H) g
    rw [e] at z
    exact z
  | off t a b => exact .off t a b
theorem Spl.opd {K : PySem.W.Frag} {C : Addr} {H : Hp} {x : V} {S : List Nat} (h : Spl K C H x (some S)) : Opd C H x S := by
  cases h with
  | set g => exact .inl ⟨_, rfl, g⟩
  | txt g => exact .inr ⟨_, rfl, g, rfl⟩
theorem Spl.few {K : PySem.W.Frag} {C : Addr} {H : Hp} {x : V} {S : List Nat} (h : Spl K C H x (some S)) : S.length ≤ 94 := by
  cases h with
  | set g => exact g.len
  | txt g => exact norm_len _
def runOk : Option (List Nat) → Option (Nat × Option Nat) → Option RunL
  | some [], _ => none
  | some (n :: S), some (l, m) => some (tx (n :: S), l, m)
  | _, _ => none
theorem bounds_some {K : PySem.W.Frag} {H : Hp} {y z : V} {a b : Bn} {l : Nat} {m : Option Nat} (h : boundsOk a b = some (l, m)) (ha : BnAt K H y a) (hb : BnAt K H z b) : y = .int (l : Nat) ∧ z = mostV m ∧ l ≤ 40 ∧ ∀ n, m = some n → l ≤ n ∧ n ≤ 40 := by
  cases a with
  | none => cases b <;> cases h
  | other => cases b <;> cases h
  | int i =>
    cases ha
    cases b with
    | other => cases h
    | none =>
      cases hb
      rw [bo_n] at h
      split at h
      · rename_i c
        have h := Option.some.inj h
        cases h
        exact ⟨by rw [Int.toNat_of_nonneg c.1], rfl, by omega, fun n z => by cases z⟩
      · cases h
    | int j =>
      cases hb
      rw [bo_i] at h
      split at h
      · rename_i c
        have h := Option.some.inj h
        cases h
        refine ⟨by rw [Int.toNat_of_nonneg c.1], ?_, by omega, fun n z => ?_⟩
        · show V.int j = V.int (j.toNat : Nat)
          rw [Int.toNat_of_nonneg (by omega)]
        · cases z
          omega
      · cases h
theorem tx_nil {S : List Nat} : (V.str (tx S) = V.str "") ↔ S = [] := by
  constructor
  · intro h
    have h2 : tx S = "" := V.str.inj h
    have h3 := congrArg (fun z : Str => z.cps.toList) h2
    have e : ("" : Str).cps.toList = [] := rfl
    rw [e] at h3
    simpa [tx] using h3
  · rintro rfl
    rfl
section
variable {P : Program} {w : World} {K : PySem.W.Frag} {mg : Str → Option Value} {base : Heap} {NC KC BK C : Addr}
/-- how Kind(..) is made -/
def CanKind (P : Program) (w : World) (K : PySem.W.Frag) (mg : Str → Option Value) (base : Heap) (NC KC BK : Addr) : Prop := ∃ f fd, Mk K KC f ∧ mg "Kind" = some (.ref KC) ∧ Binds K fd ["self", "rows"] [] ∧ FnOk P w K mg base (L2N.CX P w) 6 f fd ["self", "rows"] (spKInit NC KC BK)
def spRun (K : PySem.W.Frag) (NC KC BK C : Addr) : Sp := fun vs H Q E => ∃ (x y z : V) (S : Option (List Nat)) (a b : Bn), vs = [x, y, z] ∧ Spl K C H x S ∧ BnAt K H y a ∧ BnAt K H z b ∧
  (runOk S (boundsOk a b) = none → Raised H E BK) ∧ (∀ r, runOk S (boundsOk a b) = some r → ∀ (k : Addr) (H' : Hp), Same H H' → KindN KC NC H H' k [[r]] → Q (.ref k) H')
set_option maxHeartbeats 20000000 in
theorem ok_run {f : Addr} {fd : FuncData} (F : FunD K "run" "Kind.run" (defArgs s_Kindrun) (defBody s_Kindrun) (defScope s_Kindrun) [.int 1, .int 1] [] f fd) (PB : Plain K mg "BadKind" BK) (M : CanKind P w K mg base NC KC BK)
    (S : Can P w K mg base CX0 "is_signs" ["thing"] 2 (spSigns K C)) (B : Can P w K mg base CX0 "are_bounds" ["least", "most"] 3 (spBounds K)) (O : Can P w K mg base CX0 "signs_of" ["thing"] 4 (spOf C)) : FnOk P w K mg base (L2N.CX P w) 8 f fd ["signs", "least", "most"] (spRun K NC KC BK C) := by
  obtain ⟨fS, fdS, GS, gS, kS, bS⟩ := S
  obtain ⟨fB, fdB, GB, gB, kB, bB⟩ := B
  obtain ⟨fO, fdO, GO, gO, kO, bO⟩ := O
  obtain ⟨fM, fdM, MM, gM, bM, GM⟩ := M
  have nd := sc_Kindrun.nd
  refine F.ok sc_Kindrun (fun vs H Q E h => ?_) (fun cdv A outer s H vs Q E hr h => ?_)
  · obtain ⟨x, y, z, S, a, b, rfl, _⟩ := h
    rfl
  · obtain ⟨x, y, z, S, a, b, rfl, hx, ha, hb, out, q⟩ := h
    have tk := L2N.takes_of (X := cxOf (L2N.CX P w) P w K mg base ["signs", "least", "most", "spelling"] "Kind.run" (defScope s_Kindrun) f cdv A outer s H E) (E := E) rfl rfl rfl rfl
    refine ⟨_, pss_cons (ps_if (PW.pt (pw_or (pt_not (pt_val (pe_call GS (hr.mono (by decide)) (by rfl) gS kS bS .nil pass0 (pa_cons (pv 0) pa_nil)))) (pw_or1 (pt_not (pt_val (pe_call GB (hr.mono (by decide)) (by rfl) gB kB bB .nil pass0 (pa_cons (pv 1) (pa_cons (pv 2) pa_nil)))))))) (pss_one (L2N.ps_raise rfl tk (pmk_plain PB rfl))) pss_nil)
      (pss_cons (ps_set (i := 3) nd rfl (.inl rfl) (pe_call GO (hr.mono (by decide)) (by rfl) gO kO bO .nil pass0 (pa_cons (pv 0) pa_nil)))
      (pss_cons (ps_if (pt_cmpR op_eq (pv 3) pe_str (nomark _)) (pss_one (L2N.ps_raise rfl tk (pmk_plain PB rfl))) pss_nil)
      (pss_one (ps_ret (pe_make MM GM hr (by rfl) gM bM .nil (L2N.passes_call tk (fun _ _ _ _ h => h)) (pa_cons (pe_lst (pa_cons (pe_tup (pa_cons (pe_tup (pa_cons (pv 3) (pa_cons (pv 1) (pa_cons (pv 2) pa_nil)))) pa_nil)) pa_nil)) pa_nil)))))), ?_⟩
    refine ⟨_, rfl, x, _, rfl, hx.ask, fun H1 s1 => ⟨_, rfl, ?_⟩⟩
    cases S with
    | none => exact iteT (out (by cases boundsOk a b <;> rfl) H1 s1)
    | some S =>
      refine iteF ?_
      refine ⟨_, rfl, _, rfl, y, z, a, b, rfl, ha.same s1, hb.same s1, _, rfl, ?_⟩
      cases hbo : boundsOk a b with
      | none =>
        rw [hbo] at out
        exact iteT (out (by cases S <;> rfl) H1 s1)
      | some lm =>
        obtain ⟨l, m⟩ := lm
        refine iteF ?_
        refine ⟨_, rfl, x, S, rfl, (hx.same s1).opd, fun H2 s2 => ?_⟩
        refine name_go ?_
        dsimp only
        have s02 := s1.trans s2
        refine ⟨_, rfl, rfl, _, rfl, ?_⟩
        obtain ⟨rfl, rfl, l40, mb⟩ := bounds_some hbo ha hb
        by_cases hS : S = []
        · subst hS
          refine (if_pos (decide_eq_true (tx_nil.mpr rfl))).mpr ?_
          rw [hbo] at out
          exact out rfl H2 s02
        · refine (if_neg (fun y => hS (tx_nil.mp (of_decide_eq_true y)))).mpr ?_
          have er : runOk (some S) (boundsOk a b) = some (tx S, l, m) := by
            rw [hbo]
            cases S with
            | nil => exact absurd rfl hS
            | cons n S => rfl
          have q := q _ er
          show _
          refine ⟨_, rfl, _, rfl, _, rfl, line_small (by show 3 ≤ 16777216; decide), fun p1 n1 => ?_⟩
          refine ⟨line_small (by show 1 ≤ 16777216; decide), fun p2 n2 => ?_⟩
          refine ⟨line_small (by show 1 ≤ 16777216; decide), fun p3 n3 => ?_⟩
          have k1 := same_new (o := .tup [.str (tx S), .int (l : Nat), mostV m]) n1
          have k2 := same_new (o := .tup [.ref p1]) n2
          have k3 := same_new (o := .lst [.ref p2]) n3
          have k := k1.trans (k2.trans k3)
          have e1 := k3 _ _ (k2 _ _ (upd_same (H := H2) (a := p1) (o := .tup [.str (tx S), .int (l : Nat), mostV m])))
          have e2 := k3 _ _ (upd_same (H := upd H2 p1 (.tup [.str (tx S), .int (l : Nat), mostV m])) (a := p2) (o := .tup [.ref p1]))
          have row := row_is (bs := [((tx S, l, m), p1)]) e2 (fun x hx => by rw [List.mem_singleton.mp hx]; exact e1)
          have pl : pcL l m ≤ 40 := by
            cases m with
            | none => exact Nat.max_le.mpr ⟨l40, by decide⟩
            | some n => exact (mb n rfl).2
          have okr : RunOk (tx S, l, m) := ⟨by show (tx S).cps.size ≤ 1000; simp only [tx, List.size_toArray]; have := hx.few; omega, fun n e => (mb n e).1, by show pcL l m ≤ 500; omega⟩
          refine make_kind (rs := [([(tx S, l, m)], p2)]) (.inl upd_same) (fun x hx => by rw [List.mem_singleton.mp hx]; exact row) (by show 1 ≤ 1000; decide) (fun x hx r hr => by
            rw [List.mem_singleton.mp hx] at hr
            rw [List.mem_singleton.mp hr]
            exact okr) ⟨fun big => ?_, fun _ kk H' s3 at_ => q kk H' ((s02.trans k).trans s3) (at_.from (s02.trans k))⟩
          exfalso
          have no : bigL (onceL [[(tx S, l, m)]]) = false := by
            show (decide (20 < 1) || (([[(tx S, l, m)]] : List RowL).any fun r => decide (20 < r.length)) || decide (120 < (([[(tx S, l, m)]] : List RowL).flatMap placesR).sum)) = false
            have es : (([[(tx S, l, m)]] : List RowL).flatMap placesR).sum = pcL l m := by
              unfold placesR pcR
              simp
            rw [es, decide_eq_false (show ¬ 120 < pcL l m by omega)]
            rfl
          have big2 : bigL (onceL [[(tx S, l, m)]]) = true := big
          rw [no] at big2
          cases big2
end
end K02

set_option autoImplicit false
set_option maxErrors 4
/-! try .. except C: with no name, what else it raises going on. -/
namespace Tl
open PySem PySem.Spec PyProof.Rows L2
open L2N (Zn)
def wBare (K : PySem.W.Frag) (c : Value) (ts : Addr → Value → Option Addr → TS) (Wo : WX) (D : Ends) : WX := fun cls d σ H =>
  ∃ yes, PySem.W.exmOne K cls c = some yes ∧ (yes = false → Wo cls d σ H) ∧ (yes = true → ∀ a, H a = none → ts a cls d D σ H)
theorem clause_bare {X : Cx} {pins : List (Addr × Obj)} {σ : L2.St} {H : Hp} {cls : Value} {d : Option Addr} {a : Addr} {B : Heap} {s0 s3 : Shared} {x : Str} {c : Value} {yes : Bool} {ts : Addr → Value → Option Addr → TS} {st : Stmt} {sts : List Stmt} {p1 p2 : Pos} {hds : List ExceptHandler} {E : Ends}
    (D : Down X pins σ H cls d a B s0 s3) (hf : X.env.frame = some X.env.locals) (nm : Names X x c)
    (su : ∀ (a : Addr) (oe : Obj) (cls : Value) (d : Option Addr) (pn : List (Addr × Obj)), Zn cls d oe → (∃ vs, oe.data = .fields vs) → PSs (X.suite a ((a, oe) :: pn)) (st :: sts) (ts a cls d))
    (hy : PySem.W.exmOne X.K cls c = some yes) (no : yes = false → wpAny (model X.prog X.w) X.A (handleBy (.ref a) X.env hds) (SP X pins E) X.xe s3)
    (ok : yes = true → ts a cls d E σ H) :
    wpAny (model X.prog X.w) X.A (handleBy (.ref a) X.env (.ExceptHandler (some (.Name x p1)) none (st :: sts) p2 :: hds)) (SP X pins E) X.xe s3 := by
  obtain ⟨o1, w1, g1, z1, e1, I1⟩ := D.inside hf
  have TY : PySem.W.Looks (model X.prog X.w) s3.heap (typeOf (.ref a)) cls := fun _ _ _ _ k q => wpAny_typeOf_ref (k _ _ g1) (by rw [z1.1]; exact q)
  have asked := PySem.W.exm_one (M := model X.prog X.w) D.here.kIn TY hy
  refine wpAny_handleBy_cons (codeAny_handlers_test ?_) fun q => by cases q
  have word : ∀ {Q E : Value → Shared → Prop}, Q c s3 → wpAny (model X.prog X.w) (X.A.mark (some (.ref a))) (eval (.Name x p1) X.env) Q E s3 := by
    intro Q E q
    obtain ⟨gl, nb, mine | ⟨other, boot, nn⟩⟩ := nm
    · exact ld_glob I1 gl mine q nb
    · exact ld_blt I1 gl other boot q nn nb
  refine word (asked.here ?_)
  cases yes with
  | false => exact no rfl
  | true =>
    refine codeAny_handlers_suite (HandSPX.lands_againZ D.fly fun hp f u => ?_)
    have D2 := D.next f u
    obtain ⟨o2, w2, g2, z2, e2, I2⟩ := D2.inside hf
    refine wpAny_mono ((su a o2 cls d _ z2 ⟨_, e2⟩).run [] _ σ H _ I2 (ok rfl)) (fun fl s6 h6 => ?_) fun _ _ z => z.elim
    cases fl with
    | ret u =>
      obtain ⟨v6, _, _, I6, r6, q6⟩ := h6
      exact ⟨v6, _, _, I6.unsuite D.inv.ok, r6, q6⟩
    | next =>
      obtain ⟨_, _, I6, q6⟩ := h6
      exact ⟨_, _, I6.unsuite D.inv.ok, q6⟩
    | brk =>
      obtain ⟨_, _, I6, q6⟩ := h6
      exact ⟨_, _, I6.unsuite D.inv.ok, q6⟩
    | cont =>
      obtain ⟨_, _, I6, q6⟩ := h6
      exact ⟨_, _, I6.unsuite D.inv.ok, q6⟩
theorem ps_try_bare {X : Cx} {body : List Stmt} {x : Str} {c : Value} {st : Stmt} {sts : List Stmt} {p1 p2 pos : Pos} {ts : Addr → Value → Option Addr → TS} {tb : WX → TS} {Wo : WX}
    (hs : X.stack = X.env :: X.outer) (hf : X.env.frame = some X.env.locals) (tk : L2N.Takes X Wo) (nm : Names X x c)
    (hb : ∀ (W : WX) (pn : List (Addr × Obj)) (xe : Value → Shared → Prop), L2N.Takes (X.tr pn xe) W → PassesOwn (model X.prog X.w) X.A X.env xe → PSs (X.tr pn xe) body (tb W))
    (su : ∀ (a : Addr) (oe : Obj) (cls : Value) (d : Option Addr) (pn : List (Addr × Obj)), Zn cls d oe → (∃ vs, oe.data = .fields vs) → PSs (X.suite a ((a, oe) :: pn)) (st :: sts) (ts a cls d)) :
    PS X (.Try body [.ExceptHandler (some (.Name x p1)) none (st :: sts) p2] [] [] pos) (fun E σ H => tb (wBare X.K c ts Wo E) E σ H) := by
  refine ⟨fun pins s σ H E I q => wpAny_Try_except (wpAny_mono ((hb _ (X.pn ++ pins) (fun u s1 => wpAny (model X.prog X.w) X.A (noteFrame u X.env) (fun _ s2 => wpAny (model X.prog X.w) X.A (setFlight u none) (fun _ s3 =>
    wpAny (model X.prog X.w) X.A (handleBy u X.env [.ExceptHandler (some (.Name x p1)) none (st :: sts) p2]) (SP X pins E) X.xe s3) X.xe s2) X.xe s1) (fun u s1 xx => ?_) PassesOwn.looking).run [] s σ H E (I.toTry _) q) (fun fl s1 h => ?_) fun _ _ z => z)⟩
  · obtain ⟨a, B, s0, pins2, σ1, H1, cls, d, rfl, J, low, up, sky, na, os, gs, w⟩ := xx
    have fr : X.A.frames = some (X.env :: X.outer) := by rw [I.ok.frames, hs]
    show wpAny _ X.A (noteFrame (.ref a) X.env) _ _ _
    refine L2N.Sky.land L2N.Zn.steady fr hf (by rw [← hs]; exact sky) fun hp fly u => ?_
    have D : Down X pins σ1 H1 cls d a B s0 { s1 with heap := hp } := ⟨J.ofTry I.ok, low, up.trans u, fly, os, gs, na⟩
    obtain ⟨yes, hy, no, ok⟩ := w
    exact clause_bare D hf nm su hy (fun n => clause_none D hs hf tk (no n)) fun y => ok y a D.na
  · cases fl with
    | ret u =>
      obtain ⟨v, _, _, J, r, z⟩ := h
      exact ⟨v, _, _, J.ofTry I.ok, r, z⟩
    | next =>
      obtain ⟨_, _, J, z⟩ := h
      exact wpAny_execs_nil ⟨_, _, J.ofTry I.ok, z⟩
    | brk =>
      obtain ⟨_, _, J, z⟩ := h
      exact ⟨_, _, J.ofTry I.ok, z⟩
    | cont =>
      obtain ⟨_, _, J, z⟩ := h
      exact ⟨_, _, J.ofTry I.ok, z⟩
end Tl

set_option autoImplicit false
set_option maxErrors 4
/-! try .. except C1: .. except C2 as n: ..: clauses with and without a name, side by side. -/
namespace Tl
open PySem PySem.Spec PyProof.Rows L2
open L2N (Zn)
abbrev TsX : Type := Addr → Value → Option Addr → TS
inductive Hd
  | named (c : Value) (i : Nat) (ts : TsX)
  | bare (c : Value) (ts : TsX)
def wMixed (K : PySem.W.Frag) (Wo : WX) (D : Ends) : List Hd → WX
  | [] => Wo
  | .named c i ts :: more => fun cls d σ H => ∃ yes, PySem.W.exmOne K cls c = some yes ∧ (yes = false → wMixed K Wo D more cls d σ H) ∧
      (yes = true → ∀ a, H a = none → ts a cls d ⟨fun σ1 H1 => D.nx (σ1.set i none) H1, D.rt, fun σ1 H1 => D.bk (σ1.set i none) H1, fun σ1 H1 => D.ct (σ1.set i none) H1⟩ (σ.set i (some (.ref a))) H)
  | .bare c ts :: more => fun cls d σ H => ∃ yes, PySem.W.exmOne K cls c = some yes ∧ (yes = false → wMixed K Wo D more cls d σ H) ∧ (yes = true → ∀ a, H a = none → ts a cls d D σ H)
inductive ClausesM (X : Cx) : List ExceptHandler → List Hd → Prop
  | none : ClausesM X [] []
  | named {x n : Str} {c : Value} {i : Nat} {ts : TsX} {st : Stmt} {sts : List Stmt} {p1 p2 : Pos} {hds : List ExceptHandler} {l : List Hd}
      (nm : Names X x c) (at_ : X.N[i]? = some n) (lo : X.env.kindOf n = some .local)
      (su : ∀ (a : Addr) (oe : Obj) (cls : Value) (d : Option Addr) (pn : List (Addr × Obj)), Zn cls d oe → (∃ vs, oe.data = .fields vs) → PSs (X.suite a ((a, oe) :: pn)) (st :: sts) (ts a cls d))
      (tl : ClausesM X hds l) : ClausesM X (.ExceptHandler (some (.Name x p1)) (some n) (st :: sts) p2 :: hds) (.named c i ts :: l)
  | bare {x : Str} {c : Value} {ts : TsX} {st : Stmt} {sts : List Stmt} {p1 p2 : Pos} {hds : List ExceptHandler} {l : List Hd}
      (nm : Names X x c)
      (su : ∀ (a : Addr) (oe : Obj) (cls : Value) (d : Option Addr) (pn : List (Addr × Obj)), Zn cls d oe → (∃ vs, oe.data = .fields vs) → PSs (X.suite a ((a, oe) :: pn)) (st :: sts) (ts a cls d))
      (tl : ClausesM X hds l) : ClausesM X (.ExceptHandler (some (.Name x p1)) none (st :: sts) p2 :: hds) (.bare c ts :: l)
section
variable {X : Cx} {pins : List (Addr × Obj)} {σ : L2.St} {H : Hp} {cls : Value} {d : Option Addr} {a : Addr} {B : Heap} {s0 s3 : Shared}
theorem clausesM_run {Wo : WX} {E : Ends} (hs : X.stack = X.env :: X.outer) (hf : X.env.frame = some X.env.locals) (nd : X.N.Nodup) (tk : L2N.Takes X Wo) (D : Down X pins σ H cls d a B s0 s3) :
    ∀ {hds : List ExceptHandler} {l : List Hd}, ClausesM X hds l → wMixed X.K Wo E l cls d σ H → wpAny (model X.prog X.w) X.A (handleBy (.ref a) X.env hds) (SP X pins E) X.xe s3 := by
  intro hds l cl
  induction cl with
  | none => exact fun q => clause_none D hs hf tk q
  | named nm at_ lo su tl ih =>
    rintro ⟨yes, hy, no, ok⟩
    exact clause_one D hf nd nm at_ lo su hy (fun n => ih (no n)) fun y => ok y a D.na
  | bare nm su tl ih =>
    rintro ⟨yes, hy, no, ok⟩
    exact clause_bare D hf nm su hy (fun n => ih (no n)) fun y => ok y a D.na
end
/-- try: body; except C1: ..; except C2 as n: .. -/
theorem ps_try_mixed {X : Cx} {body : List Stmt} {h1 : ExceptHandler} {hds : List ExceptHandler} {l : List Hd} {pos : Pos} {tb : WX → TS} {Wo : WX}
    (hs : X.stack = X.env :: X.outer) (hf : X.env.frame = some X.env.locals) (nd : X.N.Nodup) (tk : L2N.Takes X Wo)
    (hb : ∀ (W : WX) (pn : List (Addr × Obj)) (xe : Value → Shared → Prop), L2N.Takes (X.tr pn xe) W → PassesOwn (model X.prog X.w) X.A X.env xe → PSs (X.tr pn xe) body (tb W))
    (cl : ClausesM X (h1 :: hds) l) : PS X (.Try body (h1 :: hds) [] [] pos) (fun E σ H => tb (wMixed X.K Wo E l) E σ H) := by
  refine ⟨fun pins s σ H E I q => wpAny_Try_except (wpAny_mono ((hb _ (X.pn ++ pins) (fun u s1 => wpAny (model X.prog X.w) X.A (noteFrame u X.env) (fun _ s2 => wpAny (model X.prog X.w) X.A (setFlight u none) (fun _ s3 =>
    wpAny (model X.prog X.w) X.A (handleBy u X.env (h1 :: hds)) (SP X pins E) X.xe s3) X.xe s2) X.xe s1) (fun u s1 xx => ?_) PassesOwn.looking).run [] s σ H E (I.toTry _) q) (fun fl s1 h => ?_) fun _ _ z => z)⟩
  · obtain ⟨a, B, s0, pins2, σ1, H1, cls, d, rfl, J, low, up, sky, na, os, gs, w⟩ := xx
    have fr : X.A.frames = some (X.env :: X.outer) := by rw [I.ok.frames, hs]
    show wpAny _ X.A (noteFrame (.ref a) X.env) _ _ _
    refine L2N.Sky.land L2N.Zn.steady fr hf (by rw [← hs]; exact sky) fun hp fly u => ?_
    exact clausesM_run hs hf nd tk (s0 := s0) (s3 := { s1 with heap := hp }) ⟨J.ofTry I.ok, low, up.trans u, fly, os, gs, na⟩ cl w
  · cases fl with
    | ret u =>
      obtain ⟨v, _, _, J, r, z⟩ := h
      exact ⟨v, _, _, J.ofTry I.ok, r, z⟩
    | next =>
      obtain ⟨_, _, J, z⟩ := h
      exact wpAny_execs_nil ⟨_, _, J.ofTry I.ok, z⟩
    | brk =>
      obtain ⟨_, _, J, z⟩ := h
      exact ⟨_, _, J.ofTry I.ok, z⟩
    | cont =>
      obtain ⟨_, _, J, z⟩ := h
      exact ⟨_, _, J.ofTry I.ok, z⟩
end Tl

set_option autoImplicit false
set_option maxErrors 4
/-! C.m(), m a staticmethod of an own class, nothing handed over. -/
namespace Tl
open PySem PySem.Spec PyProof.Rows L2
section
variable {X : Cx} {CX : CXT} {k : Nat} {f C : Addr} {fd : FuncData} {ps : List Str} {sp : Sp} {ds : List Value} {dvs : List V} {E : L2.St → XK} {x m : Str} {p1 p2 pos : Pos}
theorem pe_stat0 {pl : Sem Bool} (S : Stat X.K C m f) (F : FnOk X.prog X.w X.K X.mg X.base CX k f fd ps sp) (hr : Room k X.A) (hg : Gl X x) (hm : X.mg x = some (.ref C)) (hb : Binds X.K fd ps ds) (hd : Vals dvs ds) (hx : ∀ σ, PassesAt CX X σ (E σ))
    (hdb : (x == ("__debug__" : Str)) = false := by decide)
    (ht : eval (.Call (.Attribute (.Name x p1) m p2) [] [] pos) X.env = (do
      let ov ← eval (.Name x p1) X.env
      standAt p2.atName
      let (f, first) ← holding [ov] (getMethod ov m pl)
      callWith pos f first (backTo pos (starEach [] X.env)) (backToKw pos (keywordEach [] X.env))) := by rfl) :
    PE X (.Call (.Attribute (.Name x p1) m p2) [] [] pos) (tStat sp dvs E tNil) := by
  refine ⟨fun pins s σ H Q I h => PySem.W.methodCall_KW (pl := pl) (ld_glob I hg hm ?_ hdb) ht⟩
  obtain ⟨mm, fr⟩ := I.fr
  obtain ⟨p, rest, found, rc⟩ := S.fd
  refine PySem.W.method_of_cls fr I.ok.mod.kin S.ga (PySem.W.cls_sm fr I.ok.mod.kin S.ty S.rd found rc rfl ?_)
  exact PySem.W.callWith_K0 (first := []) (I.tok _).kIn S.kp (run_fnSD (us := []) F hr hb hd (hx σ) (I.tok _) .nil h)
end
end Tl

set_option autoImplicit false
set_option maxErrors 4
namespace K02
open PySem PySem.Spec PyProof.Rows L2 Tl
/-! ### one sign; signs that are refused -/
/-- what is asked whether it is one sign -/
inductive AskS (K : PySem.W.Frag) (H : Hp) : V → Option Nat → Prop
  | sign {n : Nat} : n ∈ alpha → AskS K H (.str (sg n)) (some n)
  | txt {l : List Nat} : l.length ≤ 2000 → (∀ n, l = [n] → n ∉ alpha) → AskS K H (.str (tx l)) none
  | off {x : V} {t : Value} : TyX K H x t → PySem.W.kitOne K t (.type "str") = some false → AskS K H x none
/-- a value that is no Signs and no text of signs -/
structure Thing (K : PySem.W.Frag) (Ds : List Addr) (C : Addr) (H : Hp) (x : V) : Prop where
  ty : ∃ t, Fo H x t ∧ Tv Ds t
  no : Spl K C H x none
theorem Thing.same {K : PySem.W.Frag} {Ds : List Addr} {C : Addr} {H H' : Hp} {x : V} (h : Thing K Ds C H x) (s : Same H H') : Thing K Ds C H' x := by
  obtain ⟨⟨t, f, v⟩, n⟩ := h
  exact ⟨⟨t, f.same s, v⟩, n.same s⟩
theorem Thing.ask {K : PySem.W.Frag} {Ds : List Addr} {C : Addr} {H : Hp} {x : V} (h : Thing K Ds C H x) : AskS K H x none := by
  obtain ⟨_, n⟩ := h
  cases n with
  | @bad l g e =>
    refine .txt g fun n en hn => ?_
    subst en
    rw [List.all_cons, List.all_nil, decide_eq_true hn] at e
    cases e
  | off t a b => exact .off t b
def hasO (S : List Nat) : Option Nat → Bool
  | some n => decide (n ∈ S)
  | none => false
section
variable {P : Program} {w : World} {K : PySem.W.Frag} {mg : Str → Option Value} {base : Heap} {C BS : Addr}
def spIsSign (K : PySem.W.Frag) : Sp := fun vs H Q _ => ∃ x o, vs = [x] ∧ AskS K H x o ∧ Q (.bl o.isSome) H
theorem ok_is_sign {f : Addr} {fd : FuncData} (F : FnP K "is_sign" "is_sign" s_is_sign f fd) (T : Txt K mg C) (N : Nms mg) : FnOk P w K mg base CX0 1 f fd ["thing"] (spIsSign K) := by
  have nd := sc_is_sign.nd
  obtain ⟨t, gS⟩ := T.sgn
  refine F.ok sc_is_sign (fun vs H Q E h => ?_) (fun cdv A outer s H vs Q E hr h => ?_)
  · obtain ⟨x, o, rfl, _⟩ := h
    rfl
  · obtain ⟨x, o, rfl, ak, q⟩ := h
    refine ⟨_, PSs.nox (pss_one (ps_ret (pe_and (pe_callB call_isi (by rfl) N.isi (by decide +kernel) (pa_cons (pv 0) (pa_cons (pe_bltn (v := .ty "str") (by rfl) N.str (by decide +kernel) rfl) pa_nil)))
      (pe_and (pe_cmpR op_eq (pe_callB call_len_str (by rfl) N.len PySem.boot_len (pa_cons (pv 0) pa_nil)) pe_int (nomark _)) (pe_one (pe_cmpR op_in_sign (pv 0) (pe_glob (v := .str (tx alpha)) rfl gS ⟨_, rfl⟩) rfl)))))), ?_⟩
    cases ak with
    | off ty k => exact ⟨_, rfl, _, _, _, _, false, rfl, .ty "str", ty, k, false, rfl, iteF q⟩
    | @sign n hn =>
      refine ⟨_, rfl, _, _, _, _, true, rfl, .ty "str", .base (.str _), kit_ty (by decide +kernel), true, rfl, iteT ?_⟩
      refine ⟨_, rfl, sg n, rfl, line_small (by show 1 ≤ 16777216; decide), rfl, true, rfl, iteT ?_⟩
      refine ⟨_, rfl, n, tx alpha, rfl, rfl, ?_⟩
      have ed : decide (n ∈ (tx alpha).cps.toList) = true := decide_eq_true hn
      rw [ed]
      exact q
    | @txt l hl no =>
      refine ⟨_, rfl, _, _, _, _, true, rfl, .ty "str", .base (.str _), kit_ty (by decide +kernel), true, rfl, iteT ?_⟩
      by_cases e1 : l.length = 1
      · obtain ⟨n, rfl⟩ : ∃ n, l = [n] := List.length_eq_one_iff.mp e1
        refine ⟨_, rfl, sg n, rfl, line_small (by show 1 ≤ 16777216; decide), rfl, true, rfl, iteT ?_⟩
        refine ⟨_, rfl, n, tx alpha, rfl, rfl, ?_⟩
        have ed : decide (n ∈ (tx alpha).cps.toList) = false := decide_eq_false (no n rfl)
        rw [ed]
        exact q
      · refine ⟨_, rfl, tx l, rfl, line_small (by rw [len_tx]; omega), rfl, false, ?_, iteF q⟩
        exact congrArg V.bl (decide_eq_false fun z => e1 (by have z2 := V.int.inj z; rw [len_tx] at z2; omega))
def spHas (K : PySem.W.Frag) (C : Addr) : Sp := fun vs H Q _ => ∃ a x S o, vs = [.ref a, x] ∧ Sg C H a S ∧ AskS K H x o ∧ Q (.bl (hasO S o)) H
theorem ok_contains {f : Addr} {fd : FuncData} (F : FnP K "__contains__" "Signs.__contains__" s_Signs_contains_ f fd) (T : Txt K mg C) (I : Can P w K mg base CX0 "is_sign" ["thing"] 1 (spIsSign K)) : FnOk P w K mg base CX0 2 f fd ["self", "x"] (spHas K C) := by
  have nd := sc_Signs_contains_.nd
  obtain ⟨fI, fdI, GI, gI, kI, bI⟩ := I
  refine F.ok sc_Signs_contains_ (fun vs H Q E h => ?_) (fun cdv A outer s H vs Q E hr h => ?_)
  · obtain ⟨a, x, S, o, rfl, _⟩ := h
    rfl
  · obtain ⟨a, x, S, o, rfl, hS, ak, q⟩ := h
    refine ⟨_, PSs.nox (pss_one (ps_ret (pe_and (pe_call GI hr (by rfl) gI kI bI .nil pass0 (pa_cons (pv 1) pa_nil)) (pe_one (pe_cmpR op_in_sign (pv 1) (pe_fld (pv 0) rfl) rfl))))), ?_⟩
    obtain ⟨⟨dx, e⟩, _⟩ := id hS
    refine ⟨_, rfl, x, o, rfl, ak, ?_⟩
    cases ak with
    | @sign n hn => exact ⟨true, rfl, iteT ⟨_, rfl, _, rfl, a, C, dx, _, _, rfl, e, T.cl, T.nS, flS_signs S, n, tx S, rfl, rfl, q⟩⟩
    | txt hl no => exact ⟨false, rfl, iteF q⟩
    | off ty k => exact ⟨false, rfl, iteF q⟩
def spEq (K : PySem.W.Frag) (C : Addr) : Sp := fun vs H Q _ => ∃ a x S, vs = [.ref a, x] ∧ Sg C H a S ∧ ((∃ b U, x = .ref b ∧ Sg C H b U ∧ Q (.bl (decide (S = U))) H) ∨ (∃ t, TyX K H x t ∧ PySem.W.kitOne K t (.ref C) = some false ∧ Q (.bl false) H))
theorem ok_eq {f : Addr} {fd : FuncData} (F : FnP K "__eq__" "Signs.__eq__" s_Signs_eq_ f fd) (T : Txt K mg C) (N : Nms mg) : FnOk P w K mg base CX0 1 f fd ["self", "other"] (spEq K C) := by
  have nd := sc_Signs_eq_.nd
  refine F.ok sc_Signs_eq_ (fun vs H Q E h => ?_) (fun cdv A outer s H vs Q E hr h => ?_)
  · obtain ⟨a, x, S, rfl, _⟩ := h
    rfl
  · obtain ⟨a, x, S, rfl, hS, h⟩ := h
    refine ⟨_, PSs.nox (pss_one (ps_ret (pe_and (pe_callB call_isi (by rfl) N.isi (by decide +kernel) (pa_cons (pv 1) (pa_cons (pe_glob (v := .ref C) rfl T.gC rfl) pa_nil))) (pe_one (pe_cmpR op_eq (pe_fld (pv 0) rfl) (pe_fld (pv 1) rfl) (nomark _)))))), ?_⟩
    obtain ⟨⟨dx, e⟩, _⟩ := id hS
    rcases h with ⟨b, U, rfl, hU, q⟩ | ⟨t, ty, k, q⟩
    · obtain ⟨⟨dy, e2⟩, _⟩ := id hU
      refine ⟨_, rfl, _, _, _, _, true, rfl, .own C, T.ty hU, T.kOwn, true, rfl, iteT ?_⟩
      refine ⟨_, rfl, a, C, dx, _, _, rfl, e, T.cl, T.nS, flS_signs S, _, rfl, b, C, dy, _, _, rfl, e2, T.cl, T.nS, flS_signs U, rfl, ?_⟩
      have ed : decide (V.str (tx S) = V.str (tx U)) = decide (S = U) := by
        rw [decide_eq_decide]
        exact ⟨fun z => tx_inj (V.str.inj z), fun z => by rw [z]⟩
      rw [ed]
      exact q
    · exact ⟨_, rfl, _, _, _, _, false, rfl, .own C, ty, k, false, rfl, iteF q⟩
def spSpelled (C : Addr) : Sp := fun vs H Q _ => ∃ a S, vs = [.ref a] ∧ Sg C H a S ∧ Q (.str (tx S)) H
theorem ok_spelled {f : Addr} {fd : FuncData} (F : FnP K "spelled" "Signs.spelled" s_Signsspelled f fd) (T : Txt K mg C) : FnOk P w K mg base CX0 1 f fd ["self"] (spSpelled C) := by
  have nd := sc_Signsspelled.nd
  refine F.ok sc_Signsspelled (fun vs H Q E h => ?_) (fun cdv A outer s H vs Q E hr h => ?_)
  · obtain ⟨a, S, rfl, _⟩ := h
    rfl
  · obtain ⟨a, S, rfl, hS, q⟩ := h
    refine ⟨_, PSs.nox (pss_one (ps_ret (pe_fld (pv 0) rfl))), ?_⟩
    obtain ⟨⟨dx, e⟩, _⟩ := id hS
    exact ⟨_, rfl, a, C, dx, _, _, rfl, e, T.cl, T.nS, flS_signs S, q⟩
/-- the empty set has no least sign -/
def spLeast (C BS : Addr) : Sp := fun vs H _ E => ∃ a x, (vs = [.ref a] ∧ x = V.non) ∧ Sg C H a [] ∧ Raised H E BS
theorem ok_least {f : Addr} {fd : FuncData} (F : FnP K "least" "Signs.least" s_Signsleast f fd) (T : Txt K mg C) (PB : Plain K mg "BadSigns" BS) : FnOk P w K mg base (L2N.CX P w) 1 f fd ["self"] (spLeast C BS) := by
  have nd := sc_Signsleast.nd
  refine F.ok sc_Signsleast (fun vs H Q E h => ?_) (fun cdv A outer s H vs Q E hr h => ?_)
  · obtain ⟨a, x, ⟨rfl, _⟩, _⟩ := h
    rfl
  · obtain ⟨a, x, ⟨rfl, _⟩, hS, out⟩ := h
    have tk := L2N.takes_of (X := cxOf (L2N.CX P w) P w K mg base ["self"] "Signs.least" (defScope s_Signsleast) f cdv A outer s H E) (E := E) rfl rfl rfl rfl
    refine ⟨_, pss_cons (ps_if (pt_cmpR op_eq (pe_fld (pv 0) rfl) pe_str (nomark _)) (pss_one (L2N.ps_raise rfl tk (pmk_plain PB rfl))) pss_nil) (pss_one (ps_ret (pe_ix ix_str (pe_fld (pv 0) rfl) pe_int (fun _ _ => rfl)))), ?_⟩
    obtain ⟨⟨dx, e⟩, _⟩ := id hS
    refine ⟨_, rfl, a, C, dx, _, _, rfl, e, T.cl, T.nS, flS_signs _, rfl, _, rfl, ?_⟩
    refine (if_pos (decide_eq_true (tx_nil.mpr rfl))).mpr ?_
    exact out H (Same.refl H)
/-- Signs(x) that is refused -/
def spInitR (K : PySem.W.Frag) (C BS : Addr) : Sp := fun vs H _ E => ∃ p dx x, vs = [.ref p, x] ∧ H p = some (.ins C dx []) ∧ Spl K C H x none ∧ Raised H E BS
theorem ok_initR {f fT : Addr} {fd fdT : FuncData} (F : FunD K "__init__" "Signs.__init__" (defArgs s_Signs_init_) (defBody s_Signs_init_) (defScope s_Signs_init_) [.str ""] [] f fd) (T : Txt K mg C) (PB : Plain K mg "BadSigns" BS)
    (GT : FnOk P w K mg base CX0 1 fT fdT ["thing"] (spTextA K C)) (gT : mg "is_sign_text" = some (.ref fT)) (kT : PySem.W.keepIn K (.ref fT) = true) (bT : Binds K fdT ["thing"] []) : FnOk P w K mg base (L2N.CX P w) 2 f fd ["self", "text"] (spInitR K C BS) := by
  have nd := sc_Signs_init_.nd
  refine F.ok sc_Signs_init_ (fun vs H Q E h => ?_) (fun cdv A outer s H vs Q E hr h => ?_)
  · obtain ⟨p, dx, l, rfl, _⟩ := h
    rfl
  · obtain ⟨p, dx, x, rfl, hp, hx, out⟩ := h
    obtain ⟨t, gS⟩ := T.sgn
    have tk := L2N.takes_of (X := cxOf (L2N.CX P w) P w K mg base ["self", "text", "sign"] "Signs.__init__" (defScope s_Signs_init_) f cdv A outer s H E) (E := E) rfl rfl rfl rfl
    refine ⟨_, pss_cons (ps_if (pt_not (pt_val (pe_call GT hr (by rfl) gT kT bT .nil pass0 (pa_cons (pv 1) pa_nil)))) (pss_one (L2N.ps_raise rfl tk (pmk_plain PB rfl))) pss_nil)
      (pss_one (ps_fld (pv 0) (pe_join pe_str (pe_lc (own := [("sign", 2)]) (g := gName 2) rfl nd (pi_str (pe_glob (v := .str (tx alpha)) rfl gS ⟨_, rfl⟩)) (blkOk_by (N := ["self", "text", "sign"]) (sc := defScope s_Signs_init_) (by decide +kernel)) (fun _ _ _ _ _ => pg_name (i := 2) nd rfl (Or.inl rfl))
      (fun _ _ _ _ _ => pts_one (pt_cmpR op_in_sign (pv 2) (pv 1) rfl)) (fun _ _ _ _ _ => pv 2))) rfl)), ?_⟩
    refine ⟨_, rfl, x, false, rfl, hx.ask, fun a e => rfl, fun H1 s1 => ⟨_, rfl, iteT ?_⟩⟩
    exact out H1 s1
/-- how Signs(..) is refused -/
def CanMkR (P : Program) (w : World) (K : PySem.W.Frag) (mg : Str → Option Value) (base : Heap) (C BS : Addr) : Prop := ∃ f fd, Mk K C f ∧ FnOk P w K mg base (L2N.CX P w) 2 f fd ["self", "text"] (spInitR K C BS) ∧ Binds K fd ["self", "text"] []
theorem makeR_rd {H : Hp} {Q : VK} {E : XK} {x : V} (hx : Spl K C H x none) (out : Raised H E BS) : ∀ r dr, H r = none → H dr = none → dr ≠ r → spInitR K C BS (.ref r :: ([x] ++ [])) (upd (upd H dr (.own r)) r (.ins C dr [])) (fun v H2 => v = .non ∧ Q (.ref r) H2) E := by
  intro r dr hr hdr ne
  have far : Same H (upd (upd H dr (.own r)) r (.ins C dr [])) := fun b o e => by
    rw [upd_ne (ne_of_none e hr), upd_ne (ne_of_none e hdr)]
    exact e
  exact ⟨r, dr, x, rfl, upd_same, hx.same far, fun H' s => out H' (far.trans s)⟩
def spOfR (K : PySem.W.Frag) (C BS : Addr) : Sp := fun vs H _ E => ∃ x, vs = [x] ∧ Spl K C H x none ∧ Raised H E BS
theorem ok_signs_ofR {f : Addr} {fd : FuncData} (F : FnP K "signs_of" "signs_of" s_signs_of f fd) (T : Txt K mg C) (N : Nms mg) (M : CanMkR P w K mg base C BS) : FnOk P w K mg base (L2N.CX P w) 4 f fd ["thing"] (spOfR K C BS) := by
  obtain ⟨fI, fdI, MI, GI, bI⟩ := M
  have nd := sc_signs_of.nd
  refine F.ok sc_signs_of (fun vs H Q E h => ?_) (fun cdv A outer s H vs Q E hr h => ?_)
  · obtain ⟨x, rfl, _⟩ := h
    rfl
  · obtain ⟨x, rfl, hx, out⟩ := h
    have tk := L2N.takes_of (X := cxOf (L2N.CX P w) P w K mg base ["thing"] "signs_of" (defScope s_signs_of) f cdv A outer s H E) (E := E) rfl rfl rfl rfl
    refine ⟨_, pss_cons (ps_if (pt_val (pe_callB call_isi (by rfl) N.isi (by decide +kernel) (pa_cons (pv 0) (pa_cons (pe_glob (v := .ref C) rfl T.gC rfl) pa_nil)))) (pss_one (ps_ret (pe_fld (pv 0) rfl))) pss_nil)
      (pss_one (ps_ret (pe_fld (pe_make MI GI hr (by rfl) T.gC bI .nil (L2N.passes_call tk (fun _ _ _ _ h => h)) (pa_cons (pv 0) pa_nil)) rfl))), ?_⟩
    have step : ∃ t, TyX K H x t ∧ PySem.W.kitOne K t (.ref C) = some false := by
      cases hx with
      | bad g e => exact ⟨_, .base (.str _), T.kStr⟩
      | off t a b => exact ⟨_, t, a⟩
    obtain ⟨t, ty, k⟩ := step
    refine ⟨_, rfl, _, _, _, _, false, rfl, .own C, ty, k, false, rfl, iteF ?_⟩
    exact ⟨_, rfl, fun r dr h1 h2 h3 => makeR_rd (Q := fun _ _ => True) hx out r dr h1 h2 h3⟩
end
end K02

set_option autoImplicit false
set_option maxErrors 4
namespace K02
open PySem PySem.Spec PyProof.Rows L2 Tl
/-! ### operators that are refused; one that is not -/
theorem opD {K : PySem.W.Frag} {C f : Addr} {m n : Str} (M : Meth K C m f) (e : n = m := by decide +kernel) : OpC K C n f := by
  rw [e]
  exact ⟨M.at_, M.fn⟩
theorem op_orS {X : Cx} {op : Value → Value → Sem Value} {r1 r2 : L2.St → R2} (h1 : OpS X op r1) (h2 : OpS X op r2) : OpS X op (fun τ x y H Q => r1 τ x y H Q ∨ r2 τ x y H Q) := fun pn t τ G a b va vb W I ra rb h => h.elim (h1 pn t τ G a b va vb W I ra rb) (h2 pn t τ G a b va vb W I ra rb)
def fAnd (S U : List Nat) : List Nat := S.filter fun n => decide (n ∈ U)
def fSub (S U : List Nat) : List Nat := S.filter fun n => !decide (n ∈ U)
theorem sgT_filter {l : List Nat} {p : Nat → Bool} (hl : ∀ n ∈ l, n ∈ alpha) (h : l.length ≤ 2000) : SgT (l.filter p) := ⟨fun n hn => hl n (List.mem_filter.mp hn).1, Nat.le_trans (List.length_filter_le _ _) h⟩
theorem filter_can {S : List Nat} {p : Nat → Bool} (h : norm S = S) : norm (S.filter p) = S.filter p := by
  have e := norm_filter S p
  rw [h] at e
  exact e.symm
theorem sub_self (S : List Nat) : fSub S S = [] := by
  unfold fSub
  rw [List.filter_eq_nil_iff]
  intro n hn
  simp [hn]
section
variable {P : Program} {w : World} {K : PySem.W.Frag} {mg : Str → Option Value} {base : Heap} {C BS : Addr} {Ds : List Addr}
def spTwo (f : List Nat → List Nat → List Nat) : Sp := fun vs H Q _ => ∃ l k, vs = [.str (tx l), .str (tx k)] ∧ l.length ≤ 2000 ∧ Gives H Q (.str (tx (f l k)))
theorem ok_kept_signs {f : Addr} {fd : FuncData} (F : FnP K "kept_signs" "kept_signs" s_kept_signs f fd) : FnOk P w K mg base CX0 1 f fd ["signs", "others"] (spTwo fAnd) := by
  have nd := sc_kept_signs.nd
  refine F.ok sc_kept_signs (fun vs H Q E h => ?_) (fun cdv A outer s H vs Q E hr h => ?_)
  · obtain ⟨l, k, rfl, _⟩ := h
    rfl
  · obtain ⟨l, k, rfl, hl, q⟩ := h
    refine ⟨_, PSs.nox (pss_one (ps_ret (pe_join pe_str (pe_lc (own := [("sign", 2)]) (g := gName 2) rfl nd (pi_str (pv 0)) (blkOk_by (N := ["signs", "others", "sign"]) (sc := defScope s_kept_signs) (by decide +kernel)) (fun _ _ _ _ _ => pg_name (i := 2) nd rfl (Or.inl rfl))
      (fun _ _ _ _ _ => pts_one (pt_cmpR op_in_sign (pv 2) (pv 1) rfl)) (fun _ _ _ _ _ => pv 2))))), ?_⟩
    exact join_tx (i := 2) (p := fun n => decide (n ∈ k)) rfl (Nat.le_trans hl (by decide)) (fun Q' z => ⟨_, rfl, z⟩) (fun _ => rfl) (fun _ => rfl) (fun n H2 Qb _ z => ⟨_, rfl, _, rfl, n, tx k, rfl, rfl, _, rfl, z⟩) q
theorem ok_other_signs {f : Addr} {fd : FuncData} (F : FnP K "other_signs" "other_signs" s_other_signs f fd) : FnOk P w K mg base CX0 1 f fd ["signs", "others"] (spTwo fSub) := by
  have nd := sc_other_signs.nd
  refine F.ok sc_other_signs (fun vs H Q E h => ?_) (fun cdv A outer s H vs Q E hr h => ?_)
  · obtain ⟨l, k, rfl, _⟩ := h
    rfl
  · obtain ⟨l, k, rfl, hl, q⟩ := h
    refine ⟨_, PSs.nox (pss_one (ps_ret (pe_join pe_str (pe_lc (own := [("sign", 2)]) (g := gName 2) rfl nd (pi_str (pv 0)) (blkOk_by (N := ["signs", "others", "sign"]) (sc := defScope s_other_signs) (by decide +kernel)) (fun _ _ _ _ _ => pg_name (i := 2) nd rfl (Or.inl rfl))
      (fun _ _ _ _ _ => pts_one (pt_cmpR op_notIn_sign (pv 2) (pv 1) rfl)) (fun _ _ _ _ _ => pv 2))))), ?_⟩
    exact join_tx (i := 2) (p := fun n => !decide (n ∈ k)) rfl (Nat.le_trans hl (by decide)) (fun Q' z => ⟨_, rfl, z⟩) (fun _ => rfl) (fun _ => rfl) (fun n H2 Qb _ z => ⟨_, rfl, _, rfl, n, tx k, rfl, rfl, _, rfl, z⟩) q
/-- a method whose operand is refused -/
def spOpR (K : PySem.W.Frag) (Ds : List Addr) (C BS : Addr) : Sp := fun vs H _ E => ∃ a S x, vs = [.ref a, x] ∧ Sg C H a S ∧ Thing K Ds C H x ∧ Raised H E BS
/-- Kind, too, is refused by within -/
def spInR (K : PySem.W.Frag) (C BS : Addr) : Sp := fun vs H _ E => ∃ a S x, vs = [.ref a, x] ∧ Sg C H a S ∧ Spl K C H x none ∧ Raised H E BS
/-- the difference of two sets -/
def spSubG (C : Addr) : Sp := fun vs H Q _ => ∃ a b S U, vs = [.ref a, .ref b] ∧ Sg C H a S ∧ Sg C H b U ∧ GivesSg C H Q (fSub S U)
theorem ok_orR {f : Addr} {fd : FuncData} (F : FnP K "__or__" "Signs.__or__" s_Signs_or_ f fd) (T : Txt K mg C) (M : CanMk P w K mg base C) (O : Can P w K mg base (L2N.CX P w) "signs_of" ["thing"] 4 (spOfR K C BS))
    (Kp : Can P w K mg base CX0 "kept_signs" ["signs", "others"] 1 (spTwo fAnd)) (Ot : Can P w K mg base CX0 "other_signs" ["signs", "others"] 1 (spTwo fSub)) : FnOk P w K mg base (L2N.CX P w) 5 f fd ["self", "other"] (spOpR K Ds C BS) := by
  obtain ⟨fI, fdI, MI, GI, bI, _⟩ := M
  obtain ⟨fO, fdO, GO, gO, kO, bO⟩ := O
  obtain ⟨fK, fdK, GK, gK, kK, bK⟩ := Kp
  obtain ⟨fT, fdT, GT, gT, kT, bT⟩ := Ot
  refine F.ok sc_Signs_or_ (fun vs H Q E h => ?_) (fun cdv A outer s H vs Q E hr h => ?_)
  · obtain ⟨a, S, x, rfl, _⟩ := h
    rfl
  · obtain ⟨a, S, x, rfl, hS, hx, out⟩ := h
    have tk := L2N.takes_of (X := cxOf (L2N.CX P w) P w K mg base ["self", "other"] "Signs.__or__" (defScope s_Signs_or_) f cdv A outer s H E) (E := E) rfl rfl rfl rfl
    have r1 := hr.mono (show 1 ≤ 4 by decide)
    have r3 := hr.mono (show 3 ≤ 4 by decide)
    refine ⟨_, pss_one (ps_ret (pe_make MI GI r3 (by rfl) T.gC bI .nil pass0 (pa_cons (pe_op op_add_str (pe_fld (pv 0) rfl) (pe_call GO hr (by rfl) gO kO bO .nil (L2N.passes_call tk (fun _ _ _ _ h => h)) (pa_cons (pv 1) pa_nil))) pa_nil))), ?_⟩
    obtain ⟨⟨dx, e⟩, _⟩ := id hS
    exact ⟨_, rfl, a, C, dx, _, _, rfl, e, T.cl, T.nS, flS_signs S, _, rfl, x, rfl, hx.no, out⟩
theorem ok_andR {f : Addr} {fd : FuncData} (F : FnP K "__and__" "Signs.__and__" s_Signs_and_ f fd) (T : Txt K mg C) (M : CanMk P w K mg base C) (O : Can P w K mg base (L2N.CX P w) "signs_of" ["thing"] 4 (spOfR K C BS))
    (Kp : Can P w K mg base CX0 "kept_signs" ["signs", "others"] 1 (spTwo fAnd)) (Ot : Can P w K mg base CX0 "other_signs" ["signs", "others"] 1 (spTwo fSub)) : FnOk P w K mg base (L2N.CX P w) 5 f fd ["self", "other"] (spOpR K Ds C BS) := by
  obtain ⟨fI, fdI, MI, GI, bI, _⟩ := M
  obtain ⟨fO, fdO, GO, gO, kO, bO⟩ := O
  obtain ⟨fK, fdK, GK, gK, kK, bK⟩ := Kp
  obtain ⟨fT, fdT, GT, gT, kT, bT⟩ := Ot
  refine F.ok sc_Signs_and_ (fun vs H Q E h => ?_) (fun cdv A outer s H vs Q E hr h => ?_)
  · obtain ⟨a, S, x, rfl, _⟩ := h
    rfl
  · obtain ⟨a, S, x, rfl, hS, hx, out⟩ := h
    have tk := L2N.takes_of (X := cxOf (L2N.CX P w) P w K mg base ["self", "other"] "Signs.__and__" (defScope s_Signs_and_) f cdv A outer s H E) (E := E) rfl rfl rfl rfl
    have r1 := hr.mono (show 1 ≤ 4 by decide)
    have r3 := hr.mono (show 3 ≤ 4 by decide)
    refine ⟨_, pss_one (ps_ret (pe_make MI GI r3 (by rfl) T.gC bI .nil pass0 (pa_cons (pe_call GK r1 (by rfl) gK kK bK .nil pass0 (pa_cons (pe_fld (pv 0) rfl) (pa_cons (pe_call GO hr (by rfl) gO kO bO .nil (L2N.passes_call tk (fun _ _ _ _ h => h)) (pa_cons (pv 1) pa_nil)) pa_nil))) pa_nil))), ?_⟩
    obtain ⟨⟨dx, e⟩, _⟩ := id hS
    exact ⟨_, rfl, a, C, dx, _, _, rfl, e, T.cl, T.nS, flS_signs S, _, rfl, x, rfl, hx.no, out⟩
theorem ok_subR {f : Addr} {fd : FuncData} (F : FnP K "__sub__" "Signs.__sub__" s_Signs_sub_ f fd) (T : Txt K mg C) (M : CanMk P w K mg base C) (O : Can P w K mg base (L2N.CX P w) "signs_of" ["thing"] 4 (spOfR K C BS))
    (Kp : Can P w K mg base CX0 "kept_signs" ["signs", "others"] 1 (spTwo fAnd)) (Ot : Can P w K mg base CX0 "other_signs" ["signs", "others"] 1 (spTwo fSub)) : FnOk P w K mg base (L2N.CX P w) 5 f fd ["self", "other"] (spOpR K Ds C BS) := by
  obtain ⟨fI, fdI, MI, GI, bI, _⟩ := M
  obtain ⟨fO, fdO, GO, gO, kO, bO⟩ := O
  obtain ⟨fK, fdK, GK, gK, kK, bK⟩ := Kp
  obtain ⟨fT, fdT, GT, gT, kT, bT⟩ := Ot
  refine F.ok sc_Signs_sub_ (fun vs H Q E h => ?_) (fun cdv A outer s H vs Q E hr h => ?_)
  · obtain ⟨a, S, x, rfl, _⟩ := h
    rfl
  · obtain ⟨a, S, x, rfl, hS, hx, out⟩ := h
    have tk := L2N.takes_of (X := cxOf (L2N.CX P w) P w K mg base ["self", "other"] "Signs.__sub__" (defScope s_Signs_sub_) f cdv A outer s H E) (E := E) rfl rfl rfl rfl
    have r1 := hr.mono (show 1 ≤ 4 by decide)
    have r3 := hr.mono (show 3 ≤ 4 by decide)
    refine ⟨_, pss_one (ps_ret (pe_make MI GI r3 (by rfl) T.gC bI .nil pass0 (pa_cons (pe_call GT r1 (by rfl) gT kT bT .nil pass0 (pa_cons (pe_fld (pv 0) rfl) (pa_cons (pe_call GO hr (by rfl) gO kO bO .nil (L2N.passes_call tk (fun _ _ _ _ h => h)) (pa_cons (pv 1) pa_nil)) pa_nil))) pa_nil))), ?_⟩
    obtain ⟨⟨dx, e⟩, _⟩ := id hS
    exact ⟨_, rfl, a, C, dx, _, _, rfl, e, T.cl, T.nS, flS_signs S, _, rfl, x, rfl, hx.no, out⟩
theorem ok_rsubR {f : Addr} {fd : FuncData} (F : FnP K "__rsub__" "Signs.__rsub__" s_Signs_rsub_ f fd) (T : Txt K mg C) (M : CanMk P w K mg base C) (O : Can P w K mg base (L2N.CX P w) "signs_of" ["thing"] 4 (spOfR K C BS))
    (Kp : Can P w K mg base CX0 "kept_signs" ["signs", "others"] 1 (spTwo fAnd)) (Ot : Can P w K mg base CX0 "other_signs" ["signs", "others"] 1 (spTwo fSub)) : FnOk P w K mg base (L2N.CX P w) 5 f fd ["self", "other"] (spOpR K Ds C BS) := by
  obtain ⟨fI, fdI, MI, GI, bI, _⟩ := M
  obtain ⟨fO, fdO, GO, gO, kO, bO⟩ := O
  obtain ⟨fK, fdK, GK, gK, kK, bK⟩ := Kp
  obtain ⟨fT, fdT, GT, gT, kT, bT⟩ := Ot
  refine F.ok sc_Signs_rsub_ (fun vs H Q E h => ?_) (fun cdv A outer s H vs Q E hr h => ?_)
  · obtain ⟨a, S, x, rfl, _⟩ := h
    rfl
  · obtain ⟨a, S, x, rfl, hS, hx, out⟩ := h
    have tk := L2N.takes_of (X := cxOf (L2N.CX P w) P w K mg base ["self", "other"] "Signs.__rsub__" (defScope s_Signs_rsub_) f cdv A outer s H E) (E := E) rfl rfl rfl rfl
    have r1 := hr.mono (show 1 ≤ 4 by decide)
    have r3 := hr.mono (show 3 ≤ 4 by decide)
    refine ⟨_, pss_one (ps_ret (pe_make MI GI r3 (by rfl) T.gC bI .nil pass0 (pa_cons (pe_call GT r1 (by rfl) gT kT bT .nil pass0 (pa_cons (pe_call GO hr (by rfl) gO kO bO .nil (L2N.passes_call tk (fun _ _ _ _ h => h)) (pa_cons (pv 1) pa_nil)) (pa_cons (pe_fld (pv 0) rfl) pa_nil))) pa_nil))), ?_⟩
    obtain ⟨⟨dx, e⟩, _⟩ := id hS
    exact ⟨_, rfl, x, rfl, hx.no, out⟩
theorem ok_withinR {f : Addr} {fd : FuncData} (F : FnP K "within" "Signs.within" s_Signswithin f fd) (T : Txt K mg C) (M : CanMk P w K mg base C) (O : Can P w K mg base (L2N.CX P w) "signs_of" ["thing"] 4 (spOfR K C BS))
    (Kp : Can P w K mg base CX0 "kept_signs" ["signs", "others"] 1 (spTwo fAnd)) (Ot : Can P w K mg base CX0 "other_signs" ["signs", "others"] 1 (spTwo fSub)) : FnOk P w K mg base (L2N.CX P w) 5 f fd ["self", "other"] (spInR K C BS) := by
  obtain ⟨fI, fdI, MI, GI, bI, _⟩ := M
  obtain ⟨fO, fdO, GO, gO, kO, bO⟩ := O
  obtain ⟨fK, fdK, GK, gK, kK, bK⟩ := Kp
  obtain ⟨fT, fdT, GT, gT, kT, bT⟩ := Ot
  refine F.ok sc_Signswithin (fun vs H Q E h => ?_) (fun cdv A outer s H vs Q E hr h => ?_)
  · obtain ⟨a, S, x, rfl, _⟩ := h
    rfl
  · obtain ⟨a, S, x, rfl, hS, hx, out⟩ := h
    have tk := L2N.takes_of (X := cxOf (L2N.CX P w) P w K mg base ["self", "other"] "Signs.within" (defScope s_Signswithin) f cdv A outer s H E) (E := E) rfl rfl rfl rfl
    have r1 := hr.mono (show 1 ≤ 4 by decide)
    have r3 := hr.mono (show 3 ≤ 4 by decide)
    refine ⟨_, pss_one (ps_ret (pe_cmpR op_eq (pe_call GT r1 (by rfl) gT kT bT .nil pass0 (pa_cons (pe_fld (pv 0) rfl) (pa_cons (pe_call GO hr (by rfl) gO kO bO .nil (L2N.passes_call tk (fun _ _ _ _ h => h)) (pa_cons (pv 1) pa_nil)) pa_nil))) pe_str (nomark _))), ?_⟩
    obtain ⟨⟨dx, e⟩, _⟩ := id hS
    exact ⟨_, rfl, a, C, dx, _, _, rfl, e, T.cl, T.nS, flS_signs S, _, rfl, x, rfl, hx, out⟩
theorem ok_rorR {f g fM : Addr} {fd fdM : FuncData} (F : FnP K "__ror__" "Signs.__ror__" s_Signs_ror_ f fd) (Fo : ForC K C .BitOr Ds) (M : Meth K C "__or__" fM) (R : Meth K C "__ror__" g) (G : FnOk P w K mg base (L2N.CX P w) 5 fM fdM ["self", "other"] (spOpR K Ds C BS)) (b : Binds K fdM ["self", "other"] []) :
    FnOk P w K mg base (L2N.CX P w) 6 f fd ["self", "other"] (spOpR K Ds C BS) := by
  refine F.ok sc_Signs_ror_ (fun vs H Q E h => ?_) (fun cdv A outer s H vs Q E hr h => ?_)
  · obtain ⟨a, S, x, rfl, _⟩ := h
    rfl
  · obtain ⟨a, S, x, rfl, hS, hx, out⟩ := h
    have tk := L2N.takes_of (X := cxOf (L2N.CX P w) P w K mg base ["self", "other"] "Signs.__ror__" (defScope s_Signs_ror_) f cdv A outer s H E) (E := E) rfl rfl rfl rfl
    refine ⟨_, pss_one (ps_ret (pe_opS (op_forL (op := .BitOr) Fo (opD M) (opD R) G hr b (L2N.passAt tk)) (pv 0) (pv 1))), ?_⟩
    obtain ⟨⟨dx, e⟩, _⟩ := id hS
    obtain ⟨⟨t, f1, t1⟩, _⟩ := id hx
    exact ⟨_, rfl, _, rfl, a, dx, _, t, rfl, e, f1, t1, a, S, x, rfl, hS, hx, out⟩
theorem ok_iorR {f g fM : Addr} {fd fdM : FuncData} (F : FnP K "__ior__" "Signs.__ior__" s_Signs_ior_ f fd) (Fo : ForC K C .BitOr Ds) (M : Meth K C "__or__" fM) (R : Meth K C "__ror__" g) (G : FnOk P w K mg base (L2N.CX P w) 5 fM fdM ["self", "other"] (spOpR K Ds C BS)) (b : Binds K fdM ["self", "other"] []) :
    FnOk P w K mg base (L2N.CX P w) 6 f fd ["self", "other"] (spOpR K Ds C BS) := by
  refine F.ok sc_Signs_ior_ (fun vs H Q E h => ?_) (fun cdv A outer s H vs Q E hr h => ?_)
  · obtain ⟨a, S, x, rfl, _⟩ := h
    rfl
  · obtain ⟨a, S, x, rfl, hS, hx, out⟩ := h
    have tk := L2N.takes_of (X := cxOf (L2N.CX P w) P w K mg base ["self", "other"] "Signs.__ior__" (defScope s_Signs_ior_) f cdv A outer s H E) (E := E) rfl rfl rfl rfl
    refine ⟨_, pss_one (ps_ret (pe_opS (op_forL (op := .BitOr) Fo (opD M) (opD R) G hr b (L2N.passAt tk)) (pv 0) (pv 1))), ?_⟩
    obtain ⟨⟨dx, e⟩, _⟩ := id hS
    obtain ⟨⟨t, f1, t1⟩, _⟩ := id hx
    exact ⟨_, rfl, _, rfl, a, dx, _, t, rfl, e, f1, t1, a, S, x, rfl, hS, hx, out⟩
theorem ok_randR {f g fM : Addr} {fd fdM : FuncData} (F : FnP K "__rand__" "Signs.__rand__" s_Signs_rand_ f fd) (Fo : ForC K C .BitAnd Ds) (M : Meth K C "__and__" fM) (R : Meth K C "__rand__" g) (G : FnOk P w K mg base (L2N.CX P w) 5 fM fdM ["self", "other"] (spOpR K Ds C BS)) (b : Binds K fdM ["self", "other"] []) :
    FnOk P w K mg base (L2N.CX P w) 6 f fd ["self", "other"] (spOpR K Ds C BS) := by
  refine F.ok sc_Signs_rand_ (fun vs H Q E h => ?_) (fun cdv A outer s H vs Q E hr h => ?_)
  · obtain ⟨a, S, x, rfl, _⟩ := h
    rfl
  · obtain ⟨a, S, x, rfl, hS, hx, out⟩ := h
    have tk := L2N.takes_of (X := cxOf (L2N.CX P w) P w K mg base ["self", "other"] "Signs.__rand__" (defScope s_Signs_rand_) f cdv A outer s H E) (E := E) rfl rfl rfl rfl
    refine ⟨_, pss_one (ps_ret (pe_opS (op_forL (op := .BitAnd) Fo (opD M) (opD R) G hr b (L2N.passAt tk)) (pv 0) (pv 1))), ?_⟩
    obtain ⟨⟨dx, e⟩, _⟩ := id hS
    obtain ⟨⟨t, f1, t1⟩, _⟩ := id hx
    exact ⟨_, rfl, _, rfl, a, dx, _, t, rfl, e, f1, t1, a, S, x, rfl, hS, hx, out⟩
theorem ok_subG {f : Addr} {fd : FuncData} (F : FnP K "__sub__" "Signs.__sub__" s_Signs_sub_ f fd) (T : Txt K mg C) (M : CanMk P w K mg base C) (O : Can P w K mg base CX0 "signs_of" ["thing"] 4 (spOf C))
    (Ot : Can P w K mg base CX0 "other_signs" ["signs", "others"] 1 (spTwo fSub)) : FnOk P w K mg base CX0 5 f fd ["self", "other"] (spSubG C) := by
  obtain ⟨fI, fdI, MI, GI, bI, _⟩ := M
  obtain ⟨fO, fdO, GO, gO, kO, bO⟩ := O
  obtain ⟨fK, fdK, GK, gK, kK, bK⟩ := Ot
  have nd := sc_Signs_sub_.nd
  refine F.ok sc_Signs_sub_ (fun vs H Q E h => ?_) (fun cdv A outer s H vs Q E hr h => ?_)
  · obtain ⟨a, x, S, U, rfl, _⟩ := h
    rfl
  · obtain ⟨a, b, S, U, rfl, hS, hU, q⟩ := h
    refine ⟨_, PSs.nox (pss_one (ps_ret (pe_make MI GI (hr.mono (by decide)) (by rfl) T.gC bI .nil pass0 (pa_cons (pe_call GK (hr.mono (by decide)) (by rfl) gK kK bK .nil pass0 (pa_cons (pe_fld (pv 0) rfl) (pa_cons (pe_call GO hr (by rfl) gO kO bO .nil pass0 (pa_cons (pv 1) pa_nil)) pa_nil))) pa_nil)))), ?_⟩
    obtain ⟨⟨dx, e⟩, _⟩ := id hS
    have l1 := hS.len
    refine ⟨_, rfl, a, C, dx, _, _, rfl, e, T.cl, T.nS, flS_signs S, _, rfl, .ref b, U, rfl, .inl ⟨b, rfl, hU⟩, fun H1 s1 => ?_⟩
    refine ⟨S, U, rfl, by omega, fun H2 s2 => ?_⟩
    refine make_rd (l := fSub S U) (sgT_filter hS.sub (by omega)) fun r H' s3 hr0 z => q r H' ((s1.trans s2).trans s3) ((s1.trans s2).free hr0) ?_
    rw [show norm (fSub S U) = fSub S U from filter_can hS.can] at z
    exact z
end
end K02

set_option autoImplicit false
set_option maxErrors 4
namespace K02
open PySem PySem.Spec PyProof.Rows L2 Tl
/-! ### span, letters, capitals, digits -/
theorem pe_joinK {X : Cx} {K : PySem.W.Frag} {o e : Expr} {to te : TE} {apos pos : Pos} (eK : X.K = K) (ho : PE X o to) (he : PE X e te) (hs : starEach [e] X.env = [(false, eval e X.env)] := by rfl) (hbase : attributeBase o "join" X.env (eval o X.env) = eval o X.env := by rfl) (hline : (apos.endLine == pos.line) = true := by rfl) :
    PE X (.Call (.Attribute o "join" apos) [e] [] pos) (tM1 (rJoin K) to te) := by
  subst eK
  exact pe_join ho he hs hbase hline
theorem one_lt (n m : Nat) : decide ((sg n).cps.toList < (sg m).cps.toList) = decide (n < m) := by
  rw [decide_eq_decide]
  show ([n] : List Nat) < [m] ↔ n < m
  rw [List.cons_lt_cons_iff]
  constructor
  · rintro (h | ⟨_, h⟩)
    · exact h
    · exact absurd h (List.lt_irrefl _)
  · exact .inl
def spanL (m k : Nat) : List Nat := alpha.filter fun n => decide (m ≤ n) && decide (n ≤ k)
theorem alpha_can : norm alpha = alpha := by decide +kernel
theorem spanL_can (m k : Nat) : norm (spanL m k) = spanL m k := filter_can alpha_can
def spanR : Option Nat → Option Nat → Option (Nat × Nat)
  | some m, some k => if m ≤ k then some (m, k) else none
  | _, _ => none
section
variable {P : Program} {w : World} {K : PySem.W.Frag} {mg : Str → Option Value} {base : Heap} {C BS : Addr}
def spSpan (K : PySem.W.Frag) (C BS : Addr) : Sp := fun vs H Q E => ∃ x y o1 o2, vs = [x, y] ∧ AskS K H x o1 ∧ AskS K H y o2 ∧ (spanR o1 o2 = none → Raised H E BS) ∧ (∀ m k, spanR o1 o2 = some (m, k) → GivesSg C H Q (spanL m k))
theorem AskS.is {K : PySem.W.Frag} {H : Hp} {x : V} {n : Nat} (h : AskS K H x (some n)) : x = .str (sg n) := by
  cases h
  rfl
set_option maxHeartbeats 20000000 in
theorem ok_span {f : Addr} {fd : FuncData} (F : FnP K "span" "Signs.span" s_Signsspan f fd) (T : Txt K mg C) (PB : Plain K mg "BadSigns" BS) (M : CanMk P w K mg base C) (I : Can P w K mg base CX0 "is_sign" ["thing"] 1 (spIsSign K)) : FnOk P w K mg base (L2N.CX P w) 4 f fd ["first", "last"] (spSpan K C BS) := by
  obtain ⟨fI, fdI, MI, GI, bI, _⟩ := M
  obtain ⟨fS, fdS, GS, gS', kS, bS⟩ := I
  obtain ⟨t, gS⟩ := T.sgn
  have nd := sc_Signsspan.nd
  refine F.ok sc_Signsspan (fun vs H Q E h => ?_) (fun cdv A outer s H vs Q E hr h => ?_)
  · obtain ⟨x, y, o1, o2, rfl, _⟩ := h
    rfl
  · obtain ⟨x, y, o1, o2, rfl, h1, h2, out, q⟩ := h
    have tk := L2N.takes_of (X := cxOf (L2N.CX P w) P w K mg base ["first", "last", "sign"] "Signs.span" (defScope s_Signsspan) f cdv A outer s H E) (E := E) rfl rfl rfl rfl
    have r1 := hr.mono (show 1 ≤ 3 by decide)
    refine ⟨_, pss_cons (ps_if (PW.pt (pw_or (pt_not (pt_val (pe_call GS r1 (by rfl) gS' kS bS .nil pass0 (pa_cons (pv 0) pa_nil)))) (pw_or (pt_not (pt_val (pe_call GS r1 (by rfl) gS' kS bS .nil pass0 (pa_cons (pv 1) pa_nil)))) (pw_or1 (pt_cmpR op_gt_str (pv 0) (pv 1) (nomark _)))))) (pss_one (L2N.ps_raise rfl tk (pmk_plain PB rfl))) pss_nil)
      (pss_one (ps_ret (pe_make MI GI hr (by rfl) T.gC bI .nil pass0 (pa_cons (pe_joinK (K := K) rfl pe_str (pe_lc (own := [("sign", 2)]) (g := gName 2) rfl nd (pi_str (pe_glob (v := .str (tx alpha)) rfl gS ⟨_, rfl⟩)) (blkOk_by (N := ["first", "last", "sign"]) (sc := defScope s_Signsspan) (by decide +kernel)) (fun _ _ _ _ _ => pg_name (i := 2) nd rfl (Or.inl rfl))
      (fun _ _ _ _ _ => pts_one (pt_chain op_le_str op_le_str (pv 0) (pv 2) (pv 1))) (fun _ _ _ _ _ => pv 2))) pa_nil)))), ?_⟩
    refine ⟨_, rfl, x, o1, rfl, h1, _, rfl, ?_⟩
    cases o1 with
    | none => exact iteT (out rfl H (Same.refl H))
    | some m =>
      refine iteF ?_
      refine ⟨_, rfl, y, o2, rfl, h2, _, rfl, ?_⟩
      cases o2 with
      | none => exact iteT (out rfl H (Same.refl H))
      | some k =>
        refine iteF ?_
        cases h1.is
        cases h2.is
        refine ⟨_, rfl, _, rfl, sg m, sg k, rfl, rfl, _, rfl, ?_⟩
        rw [one_lt]
        by_cases c : m ≤ k
        · refine (if_neg (fun z => by have z := of_decide_eq_true z; omega)).mpr ?_
          have e : spanR (some m) (some k) = some (m, k) := if_pos c
          unfold tNext
          dsimp only
          refine join_tx (i := 2) (p := fun n => decide (m ≤ n) && decide (n ≤ k)) (l := alpha) rfl (by rw [alpha_len]; decide) (fun Q' z => z) (fun _ => rfl) (fun _ => rfl) (fun n H2 Qb _ z => ?_) fun H2 s2 => ?_
          · refine ⟨_, rfl, _, rfl, sg m, sg n, rfl, rfl, _, rfl, ?_⟩
            rw [one_lt]
            by_cases c1 : m ≤ n
            · have e1 : (!decide (n < m)) = true := by simp; omega
              rw [e1]
              refine iteT ?_
              refine ⟨_, rfl, sg n, sg k, rfl, rfl, _, rfl, ?_⟩
              rw [one_lt]
              have e2 : (decide (m ≤ n) && decide (n ≤ k)) = !decide (k < n) := by
                rw [decide_eq_true c1, Bool.true_and, Bool.eq_iff_iff]
                simp
              rw [e2] at z
              exact z
            · have e1 : (!decide (n < m)) = false := by simp; omega
              rw [e1]
              refine iteF ⟨_, rfl, ?_⟩
              rw [decide_eq_false c1] at z
              exact z
          · refine make_rd (l := spanL m k) (sgT_filter (fun _ z => z) (by rw [alpha_len]; decide)) fun r H' s3 hr0 z => q m k e r H' (s2.trans s3) (s2.free hr0) ?_
            rw [spanL_can] at z
            exact z
        · refine (if_pos (decide_eq_true (by omega))).mpr ?_
          exact out (if_neg c) H (Same.refl H)
def spFixed (C : Addr) (S : List Nat) : Sp := fun vs H Q _ => vs = [] ∧ GivesSg C H Q S
theorem ok_sletters {f fS : Addr} {fd fdS : FuncData} (F : FnP K "letters" "Signs.letters" s_Signsletters f fd) (T : Txt K mg C) (SR : Stat K C "span" fS) (G : FnOk P w K mg base (L2N.CX P w) 4 fS fdS ["first", "last"] (spSpan K C BS)) (b : Binds K fdS ["first", "last"] []) : FnOk P w K mg base (L2N.CX P w) 5 f fd [] (spFixed C (spanL 97 122)) := by
  refine F.ok sc_Signsletters (fun vs H Q E h => ?_) (fun cdv A outer s H vs Q E hr h => ?_)
  · obtain ⟨rfl, _⟩ := h
    rfl
  · obtain ⟨rfl, q⟩ := h
    have tk := L2N.takes_of (X := cxOf (L2N.CX P w) P w K mg base [] "Signs.letters" (defScope s_Signsletters) f cdv A outer s H E) (E := E) rfl rfl rfl rfl
    refine ⟨_, pss_one (ps_ret (pe_stat SR G hr (by rfl) T.gC b .nil (L2N.passAt tk) (pa_cons pe_str (pa_cons pe_str pa_nil)))), ?_⟩
    refine ⟨_, _, some 97, some 122, rfl, .sign (by decide +kernel), .sign (by decide +kernel), fun z => (by cases z), fun m k e => ?_⟩
    cases e
    exact q
theorem ok_scapitals {f fS : Addr} {fd fdS : FuncData} (F : FnP K "capitals" "Signs.capitals" s_Signscapitals f fd) (T : Txt K mg C) (SR : Stat K C "span" fS) (G : FnOk P w K mg base (L2N.CX P w) 4 fS fdS ["first", "last"] (spSpan K C BS)) (b : Binds K fdS ["first", "last"] []) : FnOk P w K mg base (L2N.CX P w) 5 f fd [] (spFixed C (spanL 65 90)) := by
  refine F.ok sc_Signscapitals (fun vs H Q E h => ?_) (fun cdv A outer s H vs Q E hr h => ?_)
  · obtain ⟨rfl, _⟩ := h
    rfl
  · obtain ⟨rfl, q⟩ := h
    have tk := L2N.takes_of (X := cxOf (L2N.CX P w) P w K mg base [] "Signs.capitals" (defScope s_Signscapitals) f cdv A outer s H E) (E := E) rfl rfl rfl rfl
    refine ⟨_, pss_one (ps_ret (pe_stat SR G hr (by rfl) T.gC b .nil (L2N.passAt tk) (pa_cons pe_str (pa_cons pe_str pa_nil)))), ?_⟩
    refine ⟨_, _, some 65, some 90, rfl, .sign (by decide +kernel), .sign (by decide +kernel), fun z => (by cases z), fun m k e => ?_⟩
    cases e
    exact q
theorem ok_sdigits {f fS : Addr} {fd fdS : FuncData} (F : FnP K "digits" "Signs.digits" s_Signsdigits f fd) (T : Txt K mg C) (SR : Stat K C "span" fS) (G : FnOk P w K mg base (L2N.CX P w) 4 fS fdS ["first", "last"] (spSpan K C BS)) (b : Binds K fdS ["first", "last"] []) : FnOk P w K mg base (L2N.CX P w) 5 f fd [] (spFixed C (spanL 48 57)) := by
  refine F.ok sc_Signsdigits (fun vs H Q E h => ?_) (fun cdv A outer s H vs Q E hr h => ?_)
  · obtain ⟨rfl, _⟩ := h
    rfl
  · obtain ⟨rfl, q⟩ := h
    have tk := L2N.takes_of (X := cxOf (L2N.CX P w) P w K mg base [] "Signs.digits" (defScope s_Signsdigits) f cdv A outer s H E) (E := E) rfl rfl rfl rfl
    refine ⟨_, pss_one (ps_ret (pe_stat SR G hr (by rfl) T.gC b .nil (L2N.passAt tk) (pa_cons pe_str (pa_cons pe_str pa_nil)))), ?_⟩
    refine ⟨_, _, some 48, some 57, rfl, .sign (by decide +kernel), .sign (by decide +kernel), fun z => (by cases z), fun m k e => ?_⟩
    cases e
    exact q
end
end K02

set_option autoImplicit false
set_option maxErrors 4
namespace Tl
open PySem PySem.Spec PyProof.Rows L2
open L2N (Zn)
/-- isinstance by a word that doesn't name the object -/
def rIsA (K : PySem.W.Frag) (a : Addr) (cls : Value) (d : Option Addr) : List V → Hp → VK → Prop := fun xs H Q => ∃ (D : Addr) (c : V) (cv : Value) (b : Bool), cls = .ref D ∧ xs = [.ref a, c] ∧ ExcC K D ∧ (∀ dx, d = some dx → ∃ fs, H dx = some (.xd fs)) ∧
  (∀ u, RelV c u → u = cv) ∧ PySem.W.kitOne K (.ref D) cv = some b ∧ Q (.bl b) H
theorem call_isA {X : Cx} {K : PySem.W.Frag} {a : Addr} {oe : Obj} {cls : Value} {d : Option Addr} (eK : X.K = K) (hp : (a, oe) ∈ X.pn) (z : Zn cls d oe) (f : ∃ vs, oe.data = .fields vs) : CallR X (.builtin "isinstance") (rIsA K a cls d) := fun pins s σ H xs us Q I r h => by
  subst eK
  obtain ⟨D, c, cv, b, rfl, e, C, hd, hc, hk, q⟩ := h
  exact call_isP hp pins s σ H xs us Q I r ⟨D, d, c, cv, b, e, C, z, f, hd, hc, hk, q⟩
end Tl

set_option autoImplicit false
set_option maxErrors 4
namespace K02
open PySem PySem.Spec PyProof.Rows L2 Tl
open L2N (Zn)
/-! ### the law's small defs, and what it asks of a refusal -/
theorem nothingOut {X : Cx} : L2N.Takes X (fun _ _ _ _ => False) := fun _ _ x => by
  obtain ⟨_, _, _, _, _, _, _, _, _, _, _, _, _, _, _, _, w⟩ := x
  exact w.elim
theorem pe_to {X : Cx} {e : Expr} {t : TE} (t' : TE) (h : PE X e t) (eq : t = t' := by rfl) : PE X e t' := eq ▸ h
section
variable {P : Program} {w : World} {K : PySem.W.Frag} {mg : Str → Option Value} {base : Heap} {C BS BT BK TE' : Addr} {Ds : List Addr}
def spHeld (K : PySem.W.Frag) (Ds : List Addr) (C BS : Addr) : Sp := fun vs H _ E => ∃ a S x, (vs = [.ref a, x] ∨ vs = [x, .ref a]) ∧ Sg C H a S ∧ Thing K Ds C H x ∧ Raised H E BS
theorem ok_l_or {f fM gM : Addr} {fd fdM gdM : FuncData} (F : FnP K "_law_or" "_law_or" s_l_or f fd) (Fo : ForC K C .BitOr Ds) (M : Meth K C "__or__" fM) (R : Meth K C "__ror__" gM) (G : FnOk P w K mg base (L2N.CX P w) 5 fM fdM ["self", "other"] (spOpR K Ds C BS)) (b : Binds K fdM ["self", "other"] [])
    (G' : FnOk P w K mg base (L2N.CX P w) 6 gM gdM ["self", "other"] (spOpR K Ds C BS)) (b' : Binds K gdM ["self", "other"] []) : FnOk P w K mg base (L2N.CX P w) 7 f fd ["_law_one", "_law_other"] (spHeld K Ds C BS) := by
  refine F.ok sc_l_or (fun vs H Q E h => ?_) (fun cdv A outer s H vs Q E hr h => ?_)
  · obtain ⟨a, S, x, rfl | rfl, _⟩ := h <;> rfl
  · obtain ⟨a, S, x, hv, hS, hx, out⟩ := h
    have tk := L2N.takes_of (X := cxOf (L2N.CX P w) P w K mg base ["_law_one", "_law_other"] "_law_or" (defScope s_l_or) f cdv A outer s H E) (E := E) rfl rfl rfl rfl
    refine ⟨_, pss_one (ps_ret (pe_opS (op_orS (op_forL (op := .BitOr) Fo (opD M) (opD R) G (hr.mono (by decide)) b (L2N.passAt tk)) (op_forR (op := .BitOr) (.inl rfl) Fo (opD M) (opD R) G' (hr.mono (by decide)) b' (L2N.passAt tk))) (pv 0) (pv 1))), ?_⟩
    obtain ⟨⟨dx, e⟩, _⟩ := id hS
    obtain ⟨⟨t, f1, t1⟩, _⟩ := id hx
    rcases hv with rfl | rfl
    · exact ⟨_, rfl, _, rfl, .inl ⟨a, dx, _, t, rfl, e, f1, t1, a, S, x, rfl, hS, hx, out⟩⟩
    · exact ⟨_, rfl, _, rfl, .inr ⟨a, dx, _, t, rfl, e, f1, t1, a, S, x, rfl, hS, hx, out⟩⟩
theorem ok_l_and {f fM gM : Addr} {fd fdM gdM : FuncData} (F : FnP K "_law_and" "_law_and" s_l_and f fd) (Fo : ForC K C .BitAnd Ds) (M : Meth K C "__and__" fM) (R : Meth K C "__rand__" gM) (G : FnOk P w K mg base (L2N.CX P w) 5 fM fdM ["self", "other"] (spOpR K Ds C BS)) (b : Binds K fdM ["self", "other"] [])
    (G' : FnOk P w K mg base (L2N.CX P w) 6 gM gdM ["self", "other"] (spOpR K Ds C BS)) (b' : Binds K gdM ["self", "other"] []) : FnOk P w K mg base (L2N.CX P w) 7 f fd ["_law_one", "_law_other"] (spHeld K Ds C BS) := by
  refine F.ok sc_l_and (fun vs H Q E h => ?_) (fun cdv A outer s H vs Q E hr h => ?_)
  · obtain ⟨a, S, x, rfl | rfl, _⟩ := h <;> rfl
  · obtain ⟨a, S, x, hv, hS, hx, out⟩ := h
    have tk := L2N.takes_of (X := cxOf (L2N.CX P w) P w K mg base ["_law_one", "_law_other"] "_law_and" (defScope s_l_and) f cdv A outer s H E) (E := E) rfl rfl rfl rfl
    refine ⟨_, pss_one (ps_ret (pe_opS (op_orS (op_forL (op := .BitAnd) Fo (opD M) (opD R) G (hr.mono (by decide)) b (L2N.passAt tk)) (op_forR (op := .BitAnd) (.inr (.inl rfl)) Fo (opD M) (opD R) G' (hr.mono (by decide)) b' (L2N.passAt tk))) (pv 0) (pv 1))), ?_⟩
    obtain ⟨⟨dx, e⟩, _⟩ := id hS
    obtain ⟨⟨t, f1, t1⟩, _⟩ := id hx
    rcases hv with rfl | rfl
    · exact ⟨_, rfl, _, rfl, .inl ⟨a, dx, _, t, rfl, e, f1, t1, a, S, x, rfl, hS, hx, out⟩⟩
    · exact ⟨_, rfl, _, rfl, .inr ⟨a, dx, _, t, rfl, e, f1, t1, a, S, x, rfl, hS, hx, out⟩⟩
theorem ok_l_less {f fM gM : Addr} {fd fdM gdM : FuncData} (F : FnP K "_law_less" "_law_less" s_l_less f fd) (Fo : ForC K C .Sub Ds) (M : Meth K C "__sub__" fM) (R : Meth K C "__rsub__" gM) (G : FnOk P w K mg base (L2N.CX P w) 5 fM fdM ["self", "other"] (spOpR K Ds C BS)) (b : Binds K fdM ["self", "other"] [])
    (G' : FnOk P w K mg base (L2N.CX P w) 5 gM gdM ["self", "other"] (spOpR K Ds C BS)) (b' : Binds K gdM ["self", "other"] []) : FnOk P w K mg base (L2N.CX P w) 7 f fd ["_law_one", "_law_other"] (spHeld K Ds C BS) := by
  refine F.ok sc_l_less (fun vs H Q E h => ?_) (fun cdv A outer s H vs Q E hr h => ?_)
  · obtain ⟨a, S, x, rfl | rfl, _⟩ := h <;> rfl
  · obtain ⟨a, S, x, hv, hS, hx, out⟩ := h
    have tk := L2N.takes_of (X := cxOf (L2N.CX P w) P w K mg base ["_law_one", "_law_other"] "_law_less" (defScope s_l_less) f cdv A outer s H E) (E := E) rfl rfl rfl rfl
    refine ⟨_, pss_one (ps_ret (pe_opS (op_orS (op_forL (op := .Sub) Fo (opD M) (opD R) G (hr.mono (by decide)) b (L2N.passAt tk)) (op_forR (op := .Sub) (.inr (.inr rfl)) Fo (opD M) (opD R) G' (hr.mono (by decide)) b' (L2N.passAt tk))) (pv 0) (pv 1))), ?_⟩
    obtain ⟨⟨dx, e⟩, _⟩ := id hS
    obtain ⟨⟨t, f1, t1⟩, _⟩ := id hx
    rcases hv with rfl | rfl
    · exact ⟨_, rfl, _, rfl, .inl ⟨a, dx, _, t, rfl, e, f1, t1, a, S, x, rfl, hS, hx, out⟩⟩
    · exact ⟨_, rfl, _, rfl, .inr ⟨a, dx, _, t, rfl, e, f1, t1, a, S, x, rfl, hS, hx, out⟩⟩
theorem ok_l_or_in_place {f : Addr} {fd : FuncData} (F : FnP K "_law_or_in_place" "_law_or_in_place" s_l_or_in_place f fd) (Fo : ForC K C .BitOr Ds) {fM : Addr} {fdM : FuncData} (M : Meth K C "__ior__" fM) (G : FnOk P w K mg base (L2N.CX P w) 6 fM fdM ["self", "other"] (spOpR K Ds C BS)) (b : Binds K fdM ["self", "other"] []) : FnOk P w K mg base (L2N.CX P w) 7 f fd ["_law_one", "_law_other"] (spOpR K Ds C BS) := by
  have nd := sc_l_or_in_place.nd
  refine F.ok sc_l_or_in_place (fun vs H Q E h => ?_) (fun cdv A outer s H vs Q E hr h => ?_)
  · obtain ⟨a, S, x, rfl, hS, hx, out⟩ := h
    rfl
  · obtain ⟨a, S, x, rfl, hS, hx, out⟩ := h
    have tk := L2N.takes_of (X := cxOf (L2N.CX P w) P w K mg base ["_law_one", "_law_other", "_law_bound"] "_law_or_in_place" (defScope s_l_or_in_place) f cdv A outer s H E) (E := E) rfl rfl rfl rfl
    refine ⟨_, pss_cons (ps_set (i := 2) nd rfl (.inl rfl) (pv 0)) (pss_cons (ps_aug (i := 2) nd rfl (.inl rfl) (pv 1) (ip_own (E := E) (op := .BitOr) Fo.self (opD M) G hr b (L2N.passes_call tk (fun _ _ _ _ h => h)))) (pss_one (ps_ret (pv 2)))), ?_⟩
    obtain ⟨⟨dx, e⟩, _⟩ := id hS
    refine ⟨_, rfl, ?_⟩
    refine name_go ?_
    dsimp only
    exact ⟨_, rfl, _, rfl, a, dx, _, rfl, e, a, S, x, rfl, hS, hx, out⟩
theorem ok_l_new {f : Addr} {fd : FuncData} (F : FnP K "_law_new" "_law_new" s_l_new f fd) (T : Txt K mg C) (M : CanMkR P w K mg base C BS) : FnOk P w K mg base (L2N.CX P w) 4 f fd ["_law_one", "_law_other"] (spOpR K Ds C BS) := by
  have nd := sc_l_new.nd
  refine F.ok sc_l_new (fun vs H Q E h => ?_) (fun cdv A outer s H vs Q E hr h => ?_)
  · obtain ⟨a, S, x, rfl, hS, hx, out⟩ := h
    rfl
  · obtain ⟨a, S, x, rfl, hS, hx, out⟩ := h
    have tk := L2N.takes_of (X := cxOf (L2N.CX P w) P w K mg base ["_law_one", "_law_other"] "_law_new" (defScope s_l_new) f cdv A outer s H E) (E := E) rfl rfl rfl rfl
    obtain ⟨fI, fdI, MI, GI, bI⟩ := M
    refine ⟨_, pss_one (ps_ret (pe_make MI GI hr (by rfl) T.gC bI .nil (L2N.passes_call tk (fun _ _ _ _ h => h)) (pa_cons (pv 1) pa_nil))), ?_⟩
    exact ⟨_, rfl, fun r dr h1 h2 h3 => makeR_rd (Q := fun _ _ => True) hx.no out r dr h1 h2 h3⟩
theorem ok_l_inside {f : Addr} {fd : FuncData} (F : FnP K "_law_inside" "_law_inside" s_l_inside f fd) (T : Txt K mg C) {fM : Addr} {fdM : FuncData} (M : Meth K C "within" fM) (G : FnOk P w K mg base (L2N.CX P w) 5 fM fdM ["self", "other"] (spInR K C BS)) (b : Binds K fdM ["self", "other"] []) : FnOk P w K mg base (L2N.CX P w) 6 f fd ["_law_one", "_law_other"] (spInR K C BS) := by
  have nd := sc_l_inside.nd
  refine F.ok sc_l_inside (fun vs H Q E h => ?_) (fun cdv A outer s H vs Q E hr h => ?_)
  · obtain ⟨a, S, x, rfl, hS, hx, out⟩ := h
    rfl
  · obtain ⟨a, S, x, rfl, hS, hx, out⟩ := h
    have tk := L2N.takes_of (X := cxOf (L2N.CX P w) P w K mg base ["_law_one", "_law_other"] "_law_inside" (defScope s_l_inside) f cdv A outer s H E) (E := E) rfl rfl rfl rfl
    refine ⟨_, pss_one (ps_ret (pe_meth (pv 0) T.cl M G hr b .nil (L2N.passes_call tk (fun _ _ _ _ h => h)) (pa_cons (pv 1) pa_nil))), ?_⟩
    obtain ⟨⟨dx, e⟩, _⟩ := id hS
    exact ⟨_, rfl, a, dx, _, rfl, e, flS_no S (by decide), _, rfl, a, S, x, rfl, hS, hx, out⟩
def spSpanN (K : PySem.W.Frag) (BS : Addr) : Sp := fun vs H _ E => ∃ x y o1 o2, vs = [x, y] ∧ AskS K H x o1 ∧ AskS K H y o2 ∧ spanR o1 o2 = none ∧ Raised H E BS
theorem ok_l_span_of {f : Addr} {fd : FuncData} (F : FnP K "_law_span_of" "_law_span_of" s_l_span_of f fd) (T : Txt K mg C) {fS : Addr} {fdS : FuncData} (SR : Stat K C "span" fS) (G : FnOk P w K mg base (L2N.CX P w) 4 fS fdS ["first", "last"] (spSpan K C BS)) (b : Binds K fdS ["first", "last"] []) : FnOk P w K mg base (L2N.CX P w) 5 f fd ["_law_one", "_law_other"] (spSpanN K BS) := by
  have nd := sc_l_span_of.nd
  refine F.ok sc_l_span_of (fun vs H Q E h => ?_) (fun cdv A outer s H vs Q E hr h => ?_)
  · obtain ⟨x, y, o1, o2, rfl, h1, h2, no, out⟩ := h
    rfl
  · obtain ⟨x, y, o1, o2, rfl, h1, h2, no, out⟩ := h
    have tk := L2N.takes_of (X := cxOf (L2N.CX P w) P w K mg base ["_law_one", "_law_other"] "_law_span_of" (defScope s_l_span_of) f cdv A outer s H E) (E := E) rfl rfl rfl rfl
    refine ⟨_, pss_one (ps_ret (pe_stat SR G hr (by rfl) T.gC b .nil (L2N.passAt tk) (pa_cons (pv 0) (pa_cons (pv 1) pa_nil)))), ?_⟩
    exact ⟨_, rfl, _, rfl, x, y, o1, o2, rfl, h1, h2, fun _ => out, fun m k e => by rw [no] at e; cases e⟩
def spLeastN (C BS : Addr) : Sp := fun vs H _ E => ∃ a x, vs = [.ref a, x] ∧ Sg C H a [] ∧ Raised H E BS
theorem ok_l_least_of {f : Addr} {fd : FuncData} (F : FnP K "_law_least_of" "_law_least_of" s_l_least_of f fd) (T : Txt K mg C) {fM : Addr} {fdM : FuncData} (M : Meth K C "least" fM) (G : FnOk P w K mg base (L2N.CX P w) 1 fM fdM ["self"] (spLeast C BS)) (b : Binds K fdM ["self"] []) : FnOk P w K mg base (L2N.CX P w) 2 f fd ["_law_one", "_law_other"] (spLeastN C BS) := by
  have nd := sc_l_least_of.nd
  refine F.ok sc_l_least_of (fun vs H Q E h => ?_) (fun cdv A outer s H vs Q E hr h => ?_)
  · obtain ⟨a, x, rfl, hS, out⟩ := h
    rfl
  · obtain ⟨a, x, rfl, hS, out⟩ := h
    have tk := L2N.takes_of (X := cxOf (L2N.CX P w) P w K mg base ["_law_one", "_law_other"] "_law_least_of" (defScope s_l_least_of) f cdv A outer s H E) (E := E) rfl rfl rfl rfl
    refine ⟨_, pss_one (ps_ret (pe_meth0 (pv 0) T.cl M G hr b .nil (L2N.passes_call tk (fun _ _ _ _ h => h)))), ?_⟩
    obtain ⟨⟨dx, e⟩, _⟩ := id hS
    exact ⟨_, rfl, a, dx, _, rfl, e, flS_no [] (by decide), a, .non, ⟨rfl, rfl⟩, hS, out⟩
/-- what the law asks: the def raises BadSigns -/
def spRefused (P : Program) (w : World) (K : PySem.W.Frag) (mg : Str → Option Value) (base : Heap) (BS : Addr) : Sp := fun vs H Q _ => ∃ (fm : Addr) (x y : V) (fd : FuncData) (ps : List Str) (k : Nat) (sp : Sp), vs = [.ref fm, x, y] ∧ PySem.W.keepIn K (.ref fm) = true ∧ k ≤ 7 ∧ FnOk P w K mg base (L2N.CX P w) k fm fd ps sp ∧ Binds K fd ps [] ∧
  (∀ (Q' : VK) (E' : XK), Raised H E' BS → sp [x, y] H Q' E') ∧ Gives H Q (.bl true)
/-- the errors' names -/
structure ErrN (mg : Str → Option Value) (BS BT BK TE : Addr) : Prop where
  s : mg "BadSigns" = some (.ref BS)
  t : mg "BadText" = some (.ref BT)
  k : mg "BadKind" = some (.ref BK)
  e : mg "TownError" = some (.ref TE)
  v : mg "ValueError" = none
theorem ok_l_refused {f : Addr} {fd : FuncData} (F : FnP K "_law_refused" "_law_refused" s_l_refused f fd) (N : Nms mg) (Er : ErrA K BS TE' [BT, BK]) (En : ErrN mg BS BT BK TE') : FnOk P w K mg base CX0 8 f fd ["_law_made", "_law_one", "_law_other"] (spRefused P w K mg base BS) := by
  have nd := sc_l_refused.nd
  refine F.ok sc_l_refused (fun vs H Q E h => ?_) (fun cdv A outer s H vs Q E hr h => ?_)
  · obtain ⟨fm, x, y, fd, ps, k, sp, rfl, _⟩ := h
    rfl
  · obtain ⟨fm, x, y, fm', ps, k, sp, rfl, kp, hk, GM, bM, h, q⟩ := h
    refine ⟨_, pss_cons (ps_try_mixed (l := [.bare (.ref BT) _, .bare (.ref BK) _, .named (.ref BS) 3 _]) rfl rfl nd nothingOut (fun W pn xe tk _ => pss_one (ps_expr (pe_to (tHeld P w K mg base (L2N.CX P w) 7 0 (WE W) (tCons (tVar 1) (tCons (tVar 2) tNil))) (pe_held (i := 0) hr (L2N.passAt tk) rfl (Or.inl rfl) (pa_cons (pv 1) (pa_cons (pv 2) pa_nil))))))
      (ClausesM.bare ⟨rfl, by decide, .inl En.t⟩ (fun a oe cls d pn z fz => pss_one (ps_ret pe_bl)) (ClausesM.bare ⟨rfl, by decide, .inl En.k⟩ (fun a oe cls d pn z fz => pss_one (ps_ret pe_bl)) (ClausesM.named ⟨rfl, by decide, .inl En.s⟩ rfl rfl (fun a oe cls d pn z fz => pss_one (ps_ret (pe_and (pe_callB (call_isA (K := K) rfl List.mem_cons_self z fz) (by rfl) N.isi (by decide +kernel) (pa_cons (pv 3) (pa_cons (pe_glob (v := .ref TE') rfl En.e rfl) pa_nil)))
        (pe_one (pe_callB (call_isA (K := K) rfl List.mem_cons_self z fz) (by rfl) N.isi (by decide +kernel) (pa_cons (pv 3) (pa_cons (pe_bltn (v := .ty "ValueError") (by rfl) En.v (by decide +kernel) rfl) pa_nil))))))) ClausesM.none)))) (pss_one (ps_ret pe_bl)), ?_⟩
    refine ⟨fm, rfl, kp, _, rfl, _, rfl, fm', ps, k, sp, hk, GM, bM, h _ _ fun H1 s1 => ?_⟩
    refine ⟨false, Er.no BT (by simp), fun _ => ⟨false, Er.no BK (by simp), fun _ => ⟨true, Er.own, (fun z => by cases z), fun _ p np => ?_⟩, fun z => by cases z⟩, fun z => by cases z⟩
    refine ⟨_, rfl, BS, .ref TE', .ref TE', true, rfl, rfl, Er.c, (fun dx e => by cases e), (fun _ r => r), Er.tA, true, rfl, iteT ?_⟩
    refine ⟨_, rfl, BS, .ty "ValueError", .type "ValueError", true, rfl, rfl, Er.c, (fun dx e => by cases e), (fun _ r => r), Er.vA, ?_⟩
    exact q H1 s1
end
end K02

set_option autoImplicit false
set_option maxErrors 4
/-! a text times a natural number -/
namespace Tl
open PySem PySem.Spec PyProof.Rows L2
def timesS (z : Str) (n : Nat) : Str := ⟨(List.replicate n z.cps.toList).flatten.toArray⟩
theorem foldl_app (n : Nat) (a acc : Array Nat) : ((List.replicate n a).foldl (· ++ ·) acc).toList = acc.toList ++ (List.replicate n a.toList).flatten := by
  induction n generalizing acc with
  | zero => simp
  | succ n ih => rw [List.replicate_succ, List.foldl_cons, ih, List.replicate_succ, List.flatten_cons, Array.toList_append, List.append_assoc]
theorem mul_times (z : Str) (n : Nat) : Txt.mul z (n : Int) = timesS z n := by
  unfold Txt.mul timesS
  by_cases h : (n : Int) < 1
  · rw [if_pos h]
    have : n = 0 := by omega
    subst this
    rfl
  · rw [if_neg h]
    split
    · rename_i h2
      rw [Bool.or_eq_true] at h2
      rcases h2 with h2 | h2
      · have : n = 1 := by
          have := beq_iff_eq.mp h2
          omega
        subst this
        cases z
        simp
      · have h3 : z.cps.size = 0 := beq_iff_eq.mp h2
        have e : z.cps = #[] := Array.size_eq_zero_iff.mp h3
        cases z
        cases e
        simp
    · have e := foldl_app n z.cps #[]
      rw [Int.toNat_natCast]
      have : (List.replicate n z.cps).foldl (· ++ ·) #[] = (List.replicate n z.cps.toList).flatten.toArray := by
        apply Array.toList_inj.mp
        rw [e]
        simp
      rw [this]
theorem times_len (z : Str) (n : Nat) : (timesS z n).cps.size = n * z.cps.size := by
  unfold timesS
  simp [List.length_flatten]
section
variable {X : Cx}
theorem op_mulS : OpR X (binaryOp .Mult) (fun x y H Q => ∃ (z : Str) (n : Nat), x = .str z ∧ y = .int (n : Int) ∧ z.cps.size ≤ 2000 ∧ n ≤ 2000 ∧ Q (.str (timesS z n)) H) := by
  intro pins s σ H x y v u Q I rx ry h
  obtain ⟨z, n, rfl, rfl, hz, hn, q⟩ := h
  obtain ⟨t, rfl⟩ := rx
  obtain ⟨t', rfl⟩ := ry
  have hl : z.length ≤ 2000 := hz
  have hm : z.length * n ≤ 2000 * 2000 := Nat.mul_le_mul hl hn
  refine SB.mul ⟨?_, fun h1 _ => ?_, fun h1 _ => ?_⟩ fun t2 k => ⟨.str (timesS z n), H, I.tok _, ⟨t2, by rw [mul_times]⟩, q⟩
  · rw [Bool.or_eq_false_iff]
    exact ⟨decide_eq_false (by omega), decide_eq_false (by omega)⟩
  · have : (2 ^ 63 - 1 : Int) / n ≥ 4611686018427387 := by
      refine Int.le_ediv_of_mul_le (by omega) ?_
      omega
    omega
  · rw [Int.toNat_natCast]
    refine decide_eq_false ?_
    rw [sizeLine_eq]
    omega
end
end Tl

set_option autoImplicit false
set_option maxErrors 4
namespace K02
open PySem PySem.Spec PyProof.Rows L2 Tl
/-! ### the objects that are refused -/
theorem thing_ty {K : PySem.W.Frag} {Ds : List Addr} {C : Addr} {H : Hp} {x : V} {T : String} (hT : T ∈ tyNames) (f : Fo H x (.type T)) (ty : TyX K H x (.type T)) (k : PySem.W.kitOne K (.type T) (.ref C) = some false) (s : PySem.W.kitOne K (.type T) (.type "str") = some false) : Thing K Ds C H x := ⟨⟨_, f, .inl ⟨T, hT, rfl⟩⟩, .off ty k s⟩
theorem thing_own {K : PySem.W.Frag} {Ds : List Addr} {C D a dx : Addr} {fs : List (Str × V)} {H : Hp} (e : H a = some (.ins D dx fs)) (c : Cls K D) (se : Sees K D) (m : D ∈ Ds) (k : PySem.W.kitOne K (.ref D) (.ref C) = some false) (s : PySem.W.kitOne K (.ref D) (.type "str") = some false) : Thing K Ds C H (.ref a) := ⟨⟨_, .ins e, .inr ⟨D, m, rfl⟩⟩, .off (se.ty c e) k s⟩
theorem thing_bad {K : PySem.W.Frag} {Ds : List Addr} {C : Addr} {H : Hp} {l : List Nat} (h : l.length ≤ 2000) (b : (l.all fun n => decide (n ∈ alpha)) = false) : Thing K Ds C H (.str (tx l)) := ⟨⟨_, .str _, .inl ⟨"str", by decide, rfl⟩⟩, .bad h b⟩
section
variable {P : Program} {w : World} {K : PySem.W.Frag} {mg : Str → Option Value} {base : Heap} {C BS : Addr} {Ds : List Addr}
def spAll (K : PySem.W.Frag) (Ds : List Addr) (C : Addr) : Sp := fun vs H Q _ => ∃ a S x, vs = [.ref a, x] ∧ Sg C H a S ∧ Thing K Ds C H x ∧ Gives H Q (.bl true)
set_option maxHeartbeats 20000000 in
theorem ok_l_all {f : Addr} {fd : FuncData} (F : FnP K "_law_all_refused" "_law_all_refused" s_l_all_refused f fd) (R : Can P w K mg base CX0 "_law_refused" ["_law_made", "_law_one", "_law_other"] 8 (spRefused P w K mg base BS))
    (C1 : Can P w K mg base (L2N.CX P w) "_law_or" ["_law_one", "_law_other"] 7 (spHeld K Ds C BS)) (C2 : Can P w K mg base (L2N.CX P w) "_law_and" ["_law_one", "_law_other"] 7 (spHeld K Ds C BS)) (C3 : Can P w K mg base (L2N.CX P w) "_law_less" ["_law_one", "_law_other"] 7 (spHeld K Ds C BS))
    (C4 : Can P w K mg base (L2N.CX P w) "_law_or_in_place" ["_law_one", "_law_other"] 7 (spOpR K Ds C BS)) (C5 : Can P w K mg base (L2N.CX P w) "_law_new" ["_law_one", "_law_other"] 4 (spOpR K Ds C BS)) (C6 : Can P w K mg base (L2N.CX P w) "_law_inside" ["_law_one", "_law_other"] 6 (spInR K C BS)) :
    FnOk P w K mg base CX0 9 f fd ["_law_held", "_law_thing"] (spAll K Ds C) := by
  obtain ⟨fR, fdR, GR, gR, kR, bR⟩ := R
  obtain ⟨f1, fd1, G1, g1, k1, b1⟩ := C1
  obtain ⟨f2, fd2, G2, g2, k2, b2⟩ := C2
  obtain ⟨f3, fd3, G3, g3, k3, b3⟩ := C3
  obtain ⟨f4, fd4, G4, g4, k4, b4⟩ := C4
  obtain ⟨f5, fd5, G5, g5, k5, b5⟩ := C5
  obtain ⟨f6, fd6, G6, g6, k6, b6⟩ := C6
  have nd := sc_l_all_refused.nd
  refine F.ok sc_l_all_refused (fun vs H Q E h => ?_) (fun cdv A outer s H vs Q E hr h => ?_)
  · obtain ⟨a, S, x, rfl, _⟩ := h
    rfl
  · obtain ⟨a, S, x, rfl, hS, hx, q⟩ := h
    refine ⟨_, PSs.nox (pss_cons (ps_for PassesOwn.never rfl (pi_list (pe_lst (pa_cons (pe_glob (v := .ref f1) rfl g1 rfl) (pa_cons (pe_glob (v := .ref f2) rfl g2 rfl) (pa_cons (pe_glob (v := .ref f3) rfl g3 rfl) pa_nil))))) (pg_name (i := 2) nd rfl (Or.inl rfl)) (pss_one (ps_if (PW.pt (pw_or (pt_not (pt_val (pe_call GR hr (by rfl) gR kR bR .nil pass0 (pa_cons (pv 2) (pa_cons (pv 0) (pa_cons (pv 1) pa_nil)))))) (pw_or1 (pt_not (pt_val (pe_call GR hr (by rfl) gR kR bR .nil pass0 (pa_cons (pv 2) (pa_cons (pv 1) (pa_cons (pv 0) pa_nil))))))))) (pss_one (ps_ret pe_bl)) pss_nil)))
      (pss_cons (ps_for PassesOwn.never rfl (pi_list (pe_lst (pa_cons (pe_glob (v := .ref f4) rfl g4 rfl) (pa_cons (pe_glob (v := .ref f5) rfl g5 rfl) (pa_cons (pe_glob (v := .ref f6) rfl g6 rfl) pa_nil))))) (pg_name (i := 2) nd rfl (Or.inl rfl)) (pss_one (ps_if (pt_not (pt_val (pe_call GR hr (by rfl) gR kR bR .nil pass0 (pa_cons (pv 2) (pa_cons (pv 0) (pa_cons (pv 1) pa_nil)))))) (pss_one (ps_ret pe_bl)) pss_nil)))
      (pss_one (ps_ret pe_bl)))), ?_⟩
    refine ⟨line_small (by show 3 ≤ 16777216; decide), fun l1 n1 => ?_⟩
    have s1 := same_new (o := .lst [V.ref f1, V.ref f2, V.ref f3]) n1
    refine ⟨l1, rfl, ⟨_, SqL.of upd_same⟩, ?_⟩
    refine for_list (K := K) (xs := [.ref f1, .ref f2, .ref f3]) (fun i σ' H' => ∃ y2, σ' = [some (.ref a), some x, y2] ∧ Same (upd H l1 (.lst [V.ref f1, V.ref f2, V.ref f3])) H') ⟨none, rfl, Same.refl _⟩ (fun i σ' H' _ h => by
      obtain ⟨_, _, z⟩ := h
      exact SqL.of (z _ _ upd_same)) ?_ ?_
    · rintro i v σ H2 hv ⟨y2, rfl, sm⟩
      have ask : ∃ (fm : Addr) (fd : FuncData) (ps : List Str), v = .ref fm ∧ PySem.W.keepIn K (.ref fm) = true ∧ FnOk P w K mg base (L2N.CX P w) 7 fm fd ps (spHeld K Ds C BS) ∧ Binds K fd ps [] := by
        have m := List.mem_of_getElem? hv
        rcases List.mem_cons.mp m with rfl | m
        · exact ⟨_, _, _, rfl, k1, G1, b1⟩
        rcases List.mem_cons.mp m with rfl | m
        · exact ⟨_, _, _, rfl, k2, G2, b2⟩
        rw [List.mem_singleton.mp m]
        exact ⟨_, _, _, rfl, k3, G3, b3⟩
      obtain ⟨fm, fdm, ps, rfl, kp, G, b⟩ := ask
      have s2 := s1.trans sm
      refine name_go ?_
      dsimp only
      refine ⟨_, rfl, _, rfl, _, rfl, fm, .ref a, x, fdm, ps, 7, _, rfl, kp, (by decide), G, b, (fun Q' E' o => ⟨a, S, x, .inl rfl, hS.same s2, hx.same s2, o⟩), fun H3 s3 => ⟨_, rfl, iteF ?_⟩⟩
      refine ⟨_, rfl, _, rfl, _, rfl, fm, x, .ref a, fdm, ps, 7, _, rfl, kp, (by decide), G, b, (fun Q' E' o => ⟨a, S, x, .inr rfl, hS.same (s2.trans s3), hx.same (s2.trans s3), o⟩), fun H4 s4 => ⟨_, rfl, iteF ?_⟩⟩
      exact ⟨_, rfl, (sm.trans s3).trans s4⟩
    · rintro σ H2 ⟨y2, rfl, sm⟩
      have s2 := s1.trans sm
      refine ⟨line_small (by show 3 ≤ 16777216; decide), fun l2 n2 => ?_⟩
      have s3 := same_new (o := .lst [V.ref f4, V.ref f5, V.ref f6]) n2
      refine ⟨l2, rfl, ⟨_, SqL.of upd_same⟩, ?_⟩
      refine for_list (K := K) (xs := [.ref f4, .ref f5, .ref f6]) (fun i σ' H' => ∃ y2, σ' = [some (.ref a), some x, y2] ∧ Same (upd H2 l2 (.lst [V.ref f4, V.ref f5, V.ref f6])) H') ⟨y2, rfl, Same.refl _⟩ (fun i σ' H' _ h => by
        obtain ⟨_, _, z⟩ := h
        exact SqL.of (z _ _ upd_same)) ?_ ?_
      · rintro i v σ H3 hv ⟨y3, rfl, sm3⟩
        have s4 := (s2.trans s3).trans sm3
        have ask : ∃ (fm : Addr) (fd : FuncData) (ps : List Str) (k : Nat) (sp : Sp), v = .ref fm ∧ PySem.W.keepIn K (.ref fm) = true ∧ k ≤ 7 ∧ FnOk P w K mg base (L2N.CX P w) k fm fd ps sp ∧ Binds K fd ps [] ∧ ∀ (Q' : VK) (E' : XK), Raised H3 E' BS → sp [.ref a, x] H3 Q' E' := by
          have m := List.mem_of_getElem? hv
          rcases List.mem_cons.mp m with rfl | m
          · exact ⟨_, _, _, _, _, rfl, k4, (by decide), G4, b4, fun Q' E' o => ⟨a, S, x, rfl, hS.same s4, hx.same s4, o⟩⟩
          rcases List.mem_cons.mp m with rfl | m
          · exact ⟨_, _, _, _, _, rfl, k5, (by decide), G5, b5, fun Q' E' o => ⟨a, S, x, rfl, hS.same s4, hx.same s4, o⟩⟩
          rw [List.mem_singleton.mp m]
          exact ⟨_, _, _, _, _, rfl, k6, (by decide), G6, b6, fun Q' E' o => ⟨a, S, x, rfl, hS.same s4, (hx.same s4).no, o⟩⟩
        obtain ⟨fm, fdm, ps, k, sp, rfl, kp, hk, G, b, ready⟩ := ask
        refine name_go ?_
        dsimp only
        refine ⟨_, rfl, _, rfl, _, rfl, fm, .ref a, x, fdm, ps, k, sp, rfl, kp, hk, G, b, ready, fun H4 s5 => ⟨_, rfl, iteF ?_⟩⟩
        exact ⟨_, rfl, sm3.trans s5⟩
      · rintro σ H3 ⟨y3, rfl, sm3⟩
        exact q H3 ((s2.trans s3).trans sm3)
def spBad (K : PySem.W.Frag) (Ds : List Addr) (C : Addr) : Sp := fun vs H Q _ => ∃ b c l, vs = [.ref b, .str (tx l)] ∧ Bag H b c ∧ SgT l ∧ l.length ≤ 7 ∧
  ∀ (p : Addr) (xs : List V) (H' : Hp), H p = none → H' p = some (.lst xs) → (∀ v ∈ xs, Thing K Ds C H' v) → Bag H' b c → Kept b c H H' → Q (.ref p) H'
theorem Kept.same {b c : Addr} {H H' H2 : Hp} (h : Kept b c H H') (s : Same H' H2) : Kept b c H H2 := fun x o e nb nc => s _ _ (h x o e nb nc)
theorem Bag.same {b c : Addr} {H H' : Hp} (h : Bag H b c) (s : Same H H') : Bag H' b c := by
  obtain ⟨n, m, k, h1⟩ := h.top
  obtain ⟨ns, h2⟩ := h.cells
  exact ⟨⟨n, m, k, s _ _ h1⟩, ⟨ns, s _ _ h2⟩⟩
theorem Kept.free {b c x : Addr} {H H' : Hp} (h : Kept b c H H') (B : Bag H b c) (B' : Bag H' b c) (n : H' x = none) : H x = none := by
  cases e : H x with
  | none => rfl
  | some o =>
    by_cases xb : x = b
    · obtain ⟨_, _, _, h1⟩ := B'.top
      rw [xb, h1] at n
      cases n
    · by_cases xc : x = c
      · obtain ⟨_, h1⟩ := B'.cells
        rw [xc, h1] at n
        cases n
      · rw [h x o e xb xc] at n
        cases n
/-- what isinstance asks of the built-in types -/
def Bare (K : PySem.W.Frag) (C : Addr) : Prop := ∀ t ∈ ["NoneType", "bool", "int", "str", "list", "tuple", "dict"], PySem.W.kitOne K (.type t) (.ref C) = some false
set_option maxHeartbeats 20000000 in
theorem ok_l_bad {f : Addr} {fd : FuncData} (F : FnP K "_law_bad" "_law_bad" s_l_bad f fd) (N : Nms mg) (no : Bare K C) (D : Can P w K mg base CX0 "_law_draw" ["_law_bag_here", "_law_limit"] 1 spDraw) : FnOk P w K mg base CX0 2 f fd ["_law_bag_here", "_law_word"] (spBad K Ds C) := by
  obtain ⟨fD, fdD, GD, gD, kD, bD⟩ := D
  have nd := sc_l_bad.nd
  refine F.ok sc_l_bad (fun vs H Q E h => ?_) (fun cdv A outer s H vs Q E hr h => ?_)
  · obtain ⟨b, c, l, rfl, _⟩ := h
    rfl
  · obtain ⟨b, c, l, rfl, B, hl, l7, q⟩ := h
    refine ⟨_, PSs.nox (pss_cons (ps_set (i := 2) nd rfl (.inl rfl) (pe_call GD hr (by rfl) gD kD bD .nil pass0 (pa_cons (pv 0) (pa_cons (pe_op op_add (pe_callB call_len_str (by rfl) N.len PySem.boot_len (pa_cons (pv 1) pa_nil)) pe_int) pa_nil))))
      (pss_cons (ps_set (i := 3) nd rfl (.inl rfl) (pe_ix (r := rIxL K) ix_list (pe_lst (pa_cons pe_str (pa_cons pe_str pa_nil))) (pe_call GD hr (by rfl) gD kD bD .nil pass0 (pa_cons (pv 0) (pa_cons pe_int pa_nil))) (fun _ _ => rfl)))
      (pss_one (ps_ret (pe_lst (pa_cons (pe_op op_add_str (pe_op op_add_str (pe_slice sl_str (pv 1) po_none (po_some (pv 2))) (pv 3)) (pe_slice sl_str (pv 1) (po_some (pv 2)) po_none)) (pa_cons pe_int (pa_cons pe_int (pa_cons (pe_un un_neg pe_int) (pa_cons pe_bl (pa_cons pe_bl (pa_cons pe_non (pa_cons (pe_lst pa_nil) (pa_cons (pe_lst (pa_cons (pv 1) pa_nil)) (pa_cons (pe_tup (pa_cons (pv 1) pa_nil)) (pa_cons (pe_disp (pps_cons (pv 1) (pv 1) pps_nil) (by rfl) (by rfl) (fun z => by cases z) (by decide)) pa_nil)))))))))))))))), ?_⟩
    have ll : ((tx l).length : Nat) = l.length := len_tx l
    refine ⟨_, rfl, _, rfl, tx l, rfl, line_small (by rw [ll]; omega), _, _, rfl, rfl, ?_⟩
    refine ⟨b, c, _, rfl, B, by omega, ?_, fun d H1 d0 d1 B1 K1 => ?_⟩
    · rw [ll]
      show l.length + 1 < 2 ^ 200
      exact Nat.lt_of_le_of_lt (show l.length + 1 ≤ 8 by omega) (by decide)
    refine name_go ?_
    dsimp only
    obtain ⟨i, rfl⟩ : ∃ i : Nat, d = i := ⟨d.toNat, by omega⟩
    have il : i ≤ l.length := by omega
    refine ⟨line_small (by show 2 ≤ 16777216; decide), fun p0 n0 => ?_⟩
    have s0 := same_new (o := .lst [V.str "
", V.str "	"]) n0
    refine ⟨_, rfl, b, c, 2, rfl, B1.same s0, (by decide), (by decide), fun m H2 m0 m2 B2 K2 => ?_⟩
    have e0 : H2 p0 = some (.lst [V.str "
", V.str "	"]) := K2 _ _ upd_same (fun z => by
      obtain ⟨_, _, _, h1⟩ := B1.top
      rw [← z, n0] at h1
      cases h1) (fun z => by
      obtain ⟨_, h1⟩ := B1.cells
      rw [← z, n0] at h1
      cases h1)
    have K12 : Kept b c H H2 := (K1.same s0).trans K2
    obtain ⟨o, no_, ho⟩ : ∃ o : Nat, o ∉ alpha ∧ atI [V.str "
", V.str "	"] m = some (.str (tx [o])) := by
      rcases (show m = 0 ∨ m = 1 by omega) with rfl | rfl
      · exact ⟨10, by decide +kernel, rfl⟩
      · exact ⟨9, by decide +kernel, rfl⟩
    refine ⟨p0, _, m, _, rfl, rfl, SqL.of e0, ho, ?_⟩
    refine name_go ?_
    dsimp only
    have c1 : cutS (tx l) none (some (i : Int)) = tx (l.take i) := by
      show tx ((l.drop 0).take (HT.sIx (tx l).length (tx l).length (some (i : Int)) - 0)) = _
      rw [HT.sIx_nat, ll, Nat.min_eq_left il]
      rfl
    have c2 : cutS (tx l) (some (i : Int)) none = tx (l.drop i) := by
      show tx ((l.drop (HT.sIx (tx l).length 0 (some (i : Int)))).take ((tx l).length - HT.sIx (tx l).length 0 (some (i : Int)))) = _
      rw [HT.sIx_nat, ll, Nat.min_eq_left il, List.take_of_length_le (by rw [List.length_drop]; omega)]
    have hw : (tx l).length ≤ sizeLine := line_small (by rw [ll]; omega)
    refine ⟨_, rfl, _, rfl, _, rfl, tx l, rfl, hw, _, rfl, _, _, rfl, rfl, ?_, _, rfl, _, rfl, _, rfl, tx l, rfl, hw, _, _, rfl, rfl, ?_, ?_⟩
    · exact line_small (by rw [c1, len_tx, len_tx, List.length_take, List.length_singleton]; omega)
    · exact line_small (by rw [c1, c2, tx_app, len_tx, len_tx, List.length_append, List.length_take, List.length_drop, List.length_singleton]; omega)
    rw [c1, c2, tx_app, tx_app]
    generalize hz : List.take i l ++ [o] ++ List.drop i l = zz
    refine ⟨_, rfl, line_small (by show 0 ≤ 16777216; decide), fun L0 hL0 => ?_⟩
    have q0 := same_new (o := .lst []) hL0
    refine ⟨_, rfl, line_small (by show 1 ≤ 16777216; decide), fun L1 hL1 => ?_⟩
    have q1 := same_new (o := .lst [V.str (tx l)]) hL1
    refine ⟨_, rfl, line_small (by show 1 ≤ 16777216; decide), fun T1 hT1 => ?_⟩
    have q2 := same_new (o := .tup [V.str (tx l)]) hT1
    intro D1 hD1
    refine ⟨_, rfl, _, rfl, upd_same, [(Sum.inr (tx l), .str (tx l))], rfl, (by show 1 ≤ 15; decide), ?_⟩
    rw [upd_over]
    have q4 := same_new (o := .dK (mergeK [] [(Sum.inr (tx l), V.str (tx l))])) hD1
    refine ⟨line_small (by show 11 ≤ 16777216; decide), fun TL hTL => ?_⟩
    generalize hT : [V.str (tx zz), V.int 0, V.int 1, V.int (-7), V.bl true, V.bl false, V.non, V.ref L0, V.ref L1, V.ref T1, V.ref D1] = things at hTL ⊢
    have q5 := same_new (o := .lst things) hTL
    have all := q0.trans (q1.trans (q2.trans (q4.trans q5)))
    have e0 := q5 _ _ (q4 _ _ (q2 _ _ (q1 _ _ (upd_same (H := H2) (a := L0) (o := .lst [])))))
    have e1 := q5 _ _ (q4 _ _ (q2 _ _ (upd_same (H := upd H2 L0 (.lst [])) (a := L1) (o := .lst [V.str (tx l)]))))
    have e2 := q5 _ _ (q4 _ _ (upd_same (H := upd (upd H2 L0 (.lst [])) L1 (.lst [V.str (tx l)])) (a := T1) (o := .tup [V.str (tx l)])))
    have e3 := q5 _ _ (upd_same (H := upd (upd (upd H2 L0 (.lst [])) L1 (.lst [V.str (tx l)])) T1 (.tup [V.str (tx l)])) (a := D1) (o := .dK (mergeK [] [(Sum.inr (tx l), V.str (tx l))])))
    have hp : H2 TL = none := (q0.trans (q1.trans (q2.trans q4))).free hTL
    have eT := upd_same (H := upd (upd (upd (upd H2 L0 (.lst [])) L1 (.lst [V.str (tx l)])) T1 (.tup [V.str (tx l)])) D1 (.dK (mergeK [] [(Sum.inr (tx l), V.str (tx l))]))) (a := TL) (o := .lst things)
    generalize upd (upd (upd (upd (upd H2 L0 (.lst [])) L1 (.lst [V.str (tx l)])) T1 (.tup [V.str (tx l)])) D1 (.dK (mergeK [] [(Sum.inr (tx l), V.str (tx l))]))) TL (.lst things) = HT at all q5 e0 e1 e2 e3 eT ⊢
    refine q TL things HT (K12.free B B2 hp) eT ?_ (B2.same all) (K12.same all)
    rw [← hT]
    have nb : ∀ {T : String}, T ∈ ["NoneType", "bool", "int", "str", "list", "tuple", "dict"] → PySem.W.kitOne K (.type T) (.ref C) = some false := fun h => no _ h
    intro v hv
    rcases List.mem_cons.mp hv with rfl | hv
    · refine thing_bad ?_ ?_
      · rw [← hz]
        simp only [List.length_append, List.length_take, List.length_drop, List.length_singleton]
        omega
      · rw [List.all_eq_false]
        exact ⟨o, by rw [← hz]; simp, by simpa using no_⟩
    rcases List.mem_cons.mp hv with rfl | hv
    · exact thing_ty (T := "int") (by decide) (.int _) (.base (.int _)) (nb (by decide)) (kit_ty (by decide +kernel))
    rcases List.mem_cons.mp hv with rfl | hv
    · exact thing_ty (T := "int") (by decide) (.int _) (.base (.int _)) (nb (by decide)) (kit_ty (by decide +kernel))
    rcases List.mem_cons.mp hv with rfl | hv
    · exact thing_ty (T := "int") (by decide) (.int _) (.base (.int _)) (nb (by decide)) (kit_ty (by decide +kernel))
    rcases List.mem_cons.mp hv with rfl | hv
    · exact thing_ty (T := "bool") (by decide) (.bl _) (.base (.bl _)) (nb (by decide)) (kit_ty (by decide +kernel))
    rcases List.mem_cons.mp hv with rfl | hv
    · exact thing_ty (T := "bool") (by decide) (.bl _) (.base (.bl _)) (nb (by decide)) (kit_ty (by decide +kernel))
    rcases List.mem_cons.mp hv with rfl | hv
    · exact thing_ty (T := "NoneType") (by decide) .non (.base .non) (nb (by decide)) (kit_ty (by decide +kernel))
    rcases List.mem_cons.mp hv with rfl | hv
    · exact thing_ty (T := "list") (by decide) (.lst e0) (.base (.lst e0)) (nb (by decide)) (kit_ty (by decide +kernel))
    rcases List.mem_cons.mp hv with rfl | hv
    · exact thing_ty (T := "list") (by decide) (.lst e1) (.base (.lst e1)) (nb (by decide)) (kit_ty (by decide +kernel))
    rcases List.mem_cons.mp hv with rfl | hv
    · exact thing_ty (T := "tuple") (by decide) (.tup e2) (.base (.tup e2)) (nb (by decide)) (kit_ty (by decide +kernel))
    rw [List.mem_singleton.mp hv]
    exact thing_ty (T := "dict") (by decide) (.dct e3) (.base (.dK e3)) (nb (by decide)) (kit_ty (by decide +kernel))
end
end K02

set_option autoImplicit false
set_option maxErrors 4
namespace K02
open PySem PySem.Spec PyProof.Rows L2 Tl
/-! ### what the law asks of span -/
def al (i : Nat) : Nat := alpha.getD i 0
theorem le_uniq : ∀ (l k : List Nat), l.Pairwise (· < ·) → k.Pairwise (· < ·) → (∀ n, n ∈ l ↔ n ∈ k) → l = k
  | [], [], _, _, _ => rfl
  | [], y :: k, _, _, h => absurd ((h y).2 List.mem_cons_self) (by simp)
  | x :: l, [], _, _, h => absurd ((h x).1 List.mem_cons_self) (by simp)
  | x :: l, y :: k, hl, hk, h => by
    obtain ⟨l1, l2⟩ := List.pairwise_cons.mp hl
    obtain ⟨k1, k2⟩ := List.pairwise_cons.mp hk
    have e : x = y := by
      have a := (h x).1 List.mem_cons_self
      have b := (h y).2 List.mem_cons_self
      rcases List.mem_cons.mp a with e | e
      · exact e
      · rcases List.mem_cons.mp b with f | f
        · exact f.symm
        · have := k1 x e
          have := l1 y f
          omega
    subst e
    have t : l = k := le_uniq l k l2 k2 fun n => by
      constructor
      · intro z
        rcases List.mem_cons.mp ((h n).1 (List.mem_cons_of_mem _ z)) with e | e
        · have := l1 n z
          omega
        · exact e
      · intro z
        rcases List.mem_cons.mp ((h n).2 (List.mem_cons_of_mem _ z)) with e | e
        · have := k1 n z
          omega
        · exact e
    rw [t]
theorem alpha_lt : alpha.Pairwise (· < ·) := by decide +kernel
theorem asc_lt {A : List Nat} (h : A.Pairwise (· < ·)) {i j : Nat} (hj : j < A.length) (hi : i < j) : A[i] < A[j] := List.pairwise_iff_getElem.mp h i j (by omega) hj hi
theorem asc_le {A : List Nat} (h : A.Pairwise (· < ·)) {i j : Nat} (hi : i < A.length) (hj : j < A.length) : A[i] ≤ A[j] ↔ i ≤ j := by
  constructor
  · intro z
    refine Nat.le_of_not_lt fun c => ?_
    have := asc_lt h hi c
    omega
  · intro z
    rcases Nat.eq_or_lt_of_le z with rfl | c
    · exact Nat.le_refl _
    · exact Nat.le_of_lt (asc_lt h hj c)
theorem asc_span {A : List Nat} (h : A.Pairwise (· < ·)) {lo hi : Nat} (l1 : lo < A.length) (l2 : hi < A.length) (le : lo ≤ hi) : (A.filter fun n => decide (A[lo] ≤ n) && decide (n ≤ A[hi])) = (A.drop lo).take (hi + 1 - lo) := by
  refine le_uniq _ _ (h.filter _) ((h.sublist (List.drop_sublist _ _)).sublist (List.take_sublist _ _)) fun n => ?_
  rw [List.mem_filter, Bool.and_eq_true, decide_eq_true_eq, decide_eq_true_eq]
  constructor
  · rintro ⟨m, a, b⟩
    obtain ⟨x, hx, rfl⟩ := List.mem_iff_getElem.mp m
    have a := (asc_le h l1 hx).mp a
    have b := (asc_le h hx l2).mp b
    refine List.mem_iff_getElem.mpr ⟨x - lo, ?_, ?_⟩
    · rw [List.length_take, List.length_drop]
      omega
    · rw [List.getElem_take, List.getElem_drop]
      congr 1
      omega
  · intro m
    obtain ⟨x, hx, rfl⟩ := List.mem_iff_getElem.mp m
    rw [List.length_take, List.length_drop] at hx
    rw [List.getElem_take, List.getElem_drop]
    exact ⟨List.getElem_mem _, (asc_le h l1 (by omega)).mpr (by omega), (asc_le h (by omega) l2).mpr (by omega)⟩
theorem al_get {i : Nat} (h : i < 94) : alpha[i]? = some (al i) := by
  unfold al
  rw [List.getD_eq_getElem?_getD, List.getElem?_eq_getElem (by rw [alpha_len]; exact h)]
  rfl
theorem al_mem {i : Nat} (h : i < 94) : al i ∈ alpha := List.mem_of_getElem? (al_get h)
theorem al_eq {i : Nat} (h : i < alpha.length) : al i = alpha[i] := by
  have z := al_get (i := i) (by rw [← alpha_len]; exact h)
  rw [List.getElem?_eq_getElem h] at z
  exact (Option.some.inj z).symm
theorem al_span {lo hi : Nat} (h : lo ≤ hi) (l : hi < 94) : spanL (al lo) (al hi) = (alpha.drop lo).take (hi + 1 - lo) ∧ al lo ≤ al hi ∧ (lo = hi ∨ al lo < al hi) := by
  have l2 : hi < alpha.length := by rw [alpha_len]; exact l
  have l1 : lo < alpha.length := by omega
  rw [al_eq l1, al_eq l2]
  refine ⟨asc_span alpha_lt l1 l2 h, (asc_le alpha_lt l1 l2).mpr h, ?_⟩
  rcases Nat.eq_or_lt_of_le h with e | e
  · exact .inl e
  · exact .inr (asc_lt alpha_lt l2 e)
theorem AskS.same {K : PySem.W.Frag} {H H' : Hp} {x : V} {o : Option Nat} (h : AskS K H x o) (s : Same H H') : AskS K H' x o := by
  cases h with
  | sign g => exact .sign g
  | txt a b => exact .txt a b
  | off t k => exact .off (tyX_same t s) k
section
variable {P : Program} {w : World} {K : PySem.W.Frag} {mg : Str → Option Value} {base : Heap} {C BS : Addr}
def spLSpan : Sp := fun vs H Q _ => ∃ i j : Nat, vs = [.int (i : Nat), .int (j : Nat)] ∧ i < 94 ∧ j < 94 ∧ Gives H Q (.bl true)
set_option maxHeartbeats 20000000 in
theorem ok_l_span {f : Addr} {fd : FuncData} (F : FnP K "_law_span" "_law_span" s_l_span f fd) (T : Txt K mg C) (N : Nms mg) (nm : mg "min" = none) (A1 : Can P w K mg base CX0 "_law_alphabet" [] 1 spAlpha) {fS fE : Addr} {fdS fdE : FuncData} (SR : Stat K C "span" fS) (GS : FnOk P w K mg base (L2N.CX P w) 4 fS fdS ["first", "last"] (spSpan K C BS)) (bS : Binds K fdS ["first", "last"] [])
    (ME : Meth K C "spelled" fE) (GE : FnOk P w K mg base CX0 1 fE fdE ["self"] (spSpelled C)) (bE : Binds K fdE ["self"] []) (R : Can P w K mg base CX0 "_law_refused" ["_law_made", "_law_one", "_law_other"] 8 (spRefused P w K mg base BS)) (O1 : Can P w K mg base (L2N.CX P w) "_law_span_of" ["_law_one", "_law_other"] 5 (spSpanN K BS)) :
    FnOk P w K mg base CX0 9 f fd ["_law_low", "_law_high"] spLSpan := by
  obtain ⟨fA, fdA, GA, gA, kA, bA⟩ := A1
  obtain ⟨fR, fdR, GR, gR, kR, bR⟩ := R
  obtain ⟨fO, fdO, GO, gO, kO, bO⟩ := O1
  have nd := sc_l_span.nd
  refine F.ok sc_l_span (fun vs H Q E h => ?_) (fun cdv A outer s H vs Q E hr h => ?_)
  · obtain ⟨i, j, rfl, _⟩ := h
    rfl
  · obtain ⟨i, j, rfl, hi, hj, q⟩ := h
    have r1 := hr.mono (show 1 ≤ 8 by decide)
    have r4 := hr.mono (show 4 ≤ 8 by decide)
    have r8 := hr
    refine ⟨_, PSs.nox (pss_cons (ps_set (i := 2) nd rfl (.inl rfl) (pe_call0 GA r1 (by rfl) gA kA bA .nil pass0))
      (pss_cons (ps_set (i := 3) nd rfl (.inl rfl) (pe_callB (call_min2 rfl) (by rfl) nm (by decide +kernel) (pa_cons (pv 0) (pa_cons (pv 1) pa_nil))))
      (pss_cons (ps_set (i := 4) nd rfl (.inl rfl) (pe_callB (call_max2 rfl) (by rfl) N.max (by decide +kernel) (pa_cons (pv 0) (pa_cons (pv 1) pa_nil))))
      (pss_cons (ps_set (i := 5) nd rfl (.inl rfl) (pe_stat SR GS r4 (by rfl) T.gC bS .nil (L2N.passAt nothingOut) (pa_cons (pe_ix ix_str (pv 2) (pv 3) (fun _ _ => rfl)) (pa_cons (pe_ix ix_str (pv 2) (pv 4) (fun _ _ => rfl)) pa_nil))))
      (pss_cons (ps_if (PW.pt (pw_or (pt_not (pt_val (pe_callB call_isi (by rfl) N.isi (by decide +kernel) (pa_cons (pv 5) (pa_cons (pe_glob (v := .ref C) rfl T.gC rfl) pa_nil))))) (pw_or1 (pt_cmpR op_ne (pe_meth0 (pv 5) T.cl ME GE r1 bE .nil pass0) (pe_slice sl_str (pv 2) (po_some (pv 3)) (po_some (pe_op op_add (pv 4) pe_int))) (nomark _))))) (pss_one (ps_ret pe_bl)) pss_nil)
      (C8.pss_cut (ps_if (PW.pt (pw_and (pt_cmpR op_ne (pv 0) (pv 1) (nomark _)) (pw_and1 (pt_not (pt_val (pe_call GR r8 (by rfl) gR kR bR .nil pass0 (pa_cons (pe_glob (v := .ref fO) rfl gO rfl) (pa_cons (pe_ix ix_str (pv 2) (pv 4) (fun _ _ => rfl)) (pa_cons (pe_ix ix_str (pv 2) (pv 3) (fun _ _ => rfl)) pa_nil))))))))) (pss_one (ps_ret pe_bl)) pss_nil)
      (pss_cons (ps_for PassesOwn.never rfl (pi_list (pe_lst (pa_cons pe_str (pa_cons (pe_op op_mulS (pe_ix ix_str (pv 2) (pv 3) (fun _ _ => rfl)) pe_int) (pa_cons pe_str (pa_cons pe_int (pa_cons pe_non (pa_cons pe_bl (pa_cons (pe_lst (pa_cons (pe_ix ix_str (pv 2) (pv 3) (fun _ _ => rfl)) pa_nil)) pa_nil))))))))) (pg_name (i := 6) nd rfl (Or.inl rfl))
        (pss_cons (ps_if (pt_not (pt_val (pe_call GR r8 (by rfl) gR kR bR .nil pass0 (pa_cons (pe_glob (v := .ref fO) rfl gO rfl) (pa_cons (pv 6) (pa_cons (pe_ix ix_str (pv 2) (pv 4) (fun _ _ => rfl)) pa_nil)))))) (pss_one (ps_ret pe_bl)) pss_nil)
        (pss_one (ps_if (pt_not (pt_val (pe_call GR r8 (by rfl) gR kR bR .nil pass0 (pa_cons (pe_glob (v := .ref fO) rfl gO rfl) (pa_cons (pe_ix ix_str (pv 2) (pv 3) (fun _ _ => rfl)) (pa_cons (pv 6) pa_nil)))))) (pss_one (ps_ret pe_bl)) pss_nil))))
      (pss_one (ps_ret pe_bl))))))))), ?_⟩
    obtain ⟨lo, hi', elo, ehi, le, l94, ne⟩ : ∃ lo hi' : Nat, (if (j : Int) < (i : Int) then (j : Int) else (i : Int)) = (lo : Int) ∧ (if (j : Int) > (i : Int) then (j : Int) else (i : Int)) = (hi' : Int) ∧ lo ≤ hi' ∧ hi' < 94 ∧ (i ≠ j → lo ≠ hi') := by
      by_cases c : j < i
      · exact ⟨j, i, if_pos (by omega), if_neg (by omega), by omega, hi, by omega⟩
      · by_cases c2 : i = j
        · exact ⟨i, j, by rw [if_neg (by omega)], by rw [if_neg (by omega)]; omega, by omega, hj, fun z => absurd c2 z⟩
        · exact ⟨i, j, if_neg (by omega), if_pos (by omega), by omega, hj, fun _ => by omega⟩
    have l94' : lo < 94 := by omega
    obtain ⟨sp1, sp2, sp3⟩ := al_span le l94
    have la : ((tx alpha).length : Nat) = 94 := by rw [len_tx, alpha_len]
    have lnA : (tx alpha).length ≤ sizeLine := line_small (by rw [la]; decide)
    have at1 : ∀ n : Nat, n < 94 → atI (tx alpha).cps.toList ((n : Nat) : Int) = some (al n) := fun n h => atI_nat (al_get h)
    refine ⟨rfl, ?_⟩
    refine name_go ?_
    dsimp only
    refine ⟨_, rfl, _, rfl, _, _, rfl, ?_⟩
    rw [elo]
    refine name_go ?_
    dsimp only
    refine ⟨_, rfl, _, rfl, _, _, rfl, ?_⟩
    rw [ehi]
    refine name_go ?_
    dsimp only
    refine ⟨_, rfl, _, rfl, tx alpha, _, al lo, rfl, rfl, lnA, at1 lo l94', _, rfl, _, rfl, tx alpha, _, al hi', rfl, rfl, lnA, at1 hi' l94, ?_⟩
    have sL := AskS.sign (K := K) (H := H) (al_mem l94')
    have sH := AskS.sign (K := K) (H := H) (al_mem l94)
    refine ⟨_, _, _, _, rfl, sL, sH, (fun z => by rw [show spanR (some (al lo)) (some (al hi')) = some (al lo, al hi') from if_pos sp2] at z; cases z), fun m k e r H1 s1 hr0 hS => ?_⟩
    rw [show spanR (some (al lo)) (some (al hi')) = some (al lo, al hi') from if_pos sp2] at e
    cases e
    refine name_go ?_
    dsimp only
    obtain ⟨⟨dx, er⟩, _⟩ := id hS
    refine ⟨_, rfl, _, _, _, _, true, rfl, .own C, T.ty hS, T.kOwn, _, rfl, iteF ?_⟩
    have ec : cutS (tx alpha) (some (lo : Int)) (some ((hi' : Int) + 1)) = tx (spanL (al lo) (al hi')) := by
      show tx ((alpha.drop (HT.sIx (tx alpha).length 0 (some (lo : Int)))).take (HT.sIx (tx alpha).length (tx alpha).length (some ((hi' : Int) + 1)) - HT.sIx (tx alpha).length 0 (some (lo : Int)))) = _
      rw [show ((hi' : Int) + 1) = ((hi' + 1 : Nat) : Int) from rfl, HT.sIx_nat, HT.sIx_nat, la, Nat.min_eq_left (by omega), Nat.min_eq_left (by omega), sp1]
    refine ⟨_, rfl, r, dx, _, rfl, er, flS_no _ (by decide), r, _, rfl, hS, _, rfl, _, rfl, _, rfl, _, rfl, _, _, rfl, rfl, _, rfl, tx alpha, rfl, lnA, rfl, _, rfl, ?_⟩
    rw [ec]
    refine (if_neg (by simp)).mpr ?_
    refine ⟨fun σ' H' => σ' = [some (.int (i : Nat)), some (.int (j : Nat)), some (.str (tx alpha)), some (.int (lo : Nat)), some (.int (hi' : Nat)), some (.ref r), none] ∧ Same H1 H', ?_, ?_⟩
    · refine ⟨_, rfl, _, rfl, rfl, _, rfl, ?_⟩
      by_cases c : i = j
      · refine (if_neg (by rw [c]; simp)).mpr ?_
        exact ⟨rfl, Same.refl _⟩
      · refine (if_pos ?_).mpr ?_
        · rw [Bool.not_eq_true', decide_eq_false_iff_not]
          exact fun z => c (by have z := V.int.inj z; omega)
        refine ⟨_, rfl, _, rfl, tx alpha, _, al hi', rfl, rfl, lnA, at1 hi' l94, _, rfl, _, rfl, tx alpha, _, al lo, rfl, rfl, lnA, at1 lo l94', fO, _, _, fdO, _, 5, _, rfl, kO, (by decide), GO, bO, (fun Q' E' o => ⟨_, _, _, _, rfl, .sign (al_mem l94), .sign (al_mem l94'), ?_, o⟩), fun H2 s2 => ⟨_, rfl, iteF ⟨rfl, s2⟩⟩⟩
        have := ne c
        exact if_neg (by omega)
    · rintro σ' H2 ⟨rfl, s2⟩
      have s12 := s1.trans s2
      have tms : timesS (sg (al lo)) 2 = tx [al lo, al lo] := rfl
      refine ⟨_, rfl, _, rfl, tx alpha, _, al lo, rfl, rfl, lnA, at1 lo l94', _, 2, rfl, rfl, (by show 1 ≤ 2000; decide), (by decide), _, rfl, _, rfl, tx alpha, _, al lo, rfl, rfl, lnA, at1 lo l94', line_small (by show 1 ≤ 16777216; decide), fun L0 hL0 => ⟨line_small (by show 7 ≤ 16777216; decide), fun TL hTL => ?_⟩⟩
      have q0 := same_new (o := .lst [V.str ⟨#[al lo]⟩]) hL0
      refine ⟨TL, rfl, ⟨_, SqL.of upd_same⟩, ?_⟩
      generalize hT : [V.str "", V.str (timesS ⟨#[al lo]⟩ 2), V.str "
", V.int 5, V.non, V.bl true, V.ref L0] = things at hTL ⊢
      have q5 := same_new (o := .lst things) hTL
      have e0 := q5 _ _ (upd_same (H := H2) (a := L0) (o := .lst [V.str ⟨#[al lo]⟩]))
      have eT := upd_same (H := upd H2 L0 (.lst [V.str ⟨#[al lo]⟩])) (a := TL) (o := .lst things)
      have sT := s12.trans (q0.trans q5)
      generalize upd (upd H2 L0 (.lst [V.str ⟨#[al lo]⟩])) TL (.lst things) = HT at e0 eT sT ⊢
      have ask : ∀ v ∈ things, AskS K HT v none := by
        rw [← hT]
        intro v hv
        rcases List.mem_cons.mp hv with rfl | hv
        · exact AskS.txt (l := []) (by decide) (fun n z => by cases z)
        rcases List.mem_cons.mp hv with rfl | hv
        · exact AskS.txt (l := [al lo, al lo]) (by show 2 ≤ 2000; decide) (fun n z => by cases z)
        rcases List.mem_cons.mp hv with rfl | hv
        · exact AskS.txt (l := [10]) (by decide) (fun n z => by cases z; decide +kernel)
        rcases List.mem_cons.mp hv with rfl | hv
        · exact .off (.base (.int _)) (kit_ty (by decide +kernel))
        rcases List.mem_cons.mp hv with rfl | hv
        · exact .off (.base .non) (kit_ty (by decide +kernel))
        rcases List.mem_cons.mp hv with rfl | hv
        · exact .off (.base (.bl _)) (kit_ty (by decide +kernel))
        rw [List.mem_singleton.mp hv]
        exact .off (.base (.lst e0)) (kit_ty (by decide +kernel))
      refine for_list (K := K) (xs := things) (fun n σ' H' => ∃ y6, σ' = [some (.int (i : Nat)), some (.int (j : Nat)), some (.str (tx alpha)), some (.int (lo : Nat)), some (.int (hi' : Nat)), some (.ref r), y6] ∧ Same HT H') ⟨none, rfl, Same.refl _⟩ (fun n σ' H' _ h => by
        obtain ⟨_, _, z⟩ := h
        exact SqL.of (z _ _ eT)) ?_ ?_
      · rintro n v σ H3 hv ⟨y6, rfl, sm⟩
        have av := (ask v (List.mem_of_getElem? hv)).same sm
        refine name_go ?_
        dsimp only
        refine ⟨_, rfl, _, rfl, _, rfl, tx alpha, _, al hi', rfl, rfl, lnA, at1 hi' l94, fO, v, _, fdO, _, 5, _, rfl, kO, (by decide), GO, bO, (fun Q' E' o => ⟨_, _, _, _, rfl, av, .sign (al_mem l94), rfl, o⟩), fun H4 s4 => ⟨_, rfl, iteF ?_⟩⟩
        refine ⟨_, rfl, _, rfl, tx alpha, _, al lo, rfl, rfl, lnA, at1 lo l94', _, rfl, fO, _, v, fdO, _, 5, _, rfl, kO, (by decide), GO, bO, (fun Q' E' o => ⟨_, _, _, _, rfl, .sign (al_mem l94'), av.same s4, rfl, o⟩), fun H5 s5 => ⟨_, rfl, iteF ?_⟩⟩
        exact ⟨_, rfl, (sm.trans s4).trans s5⟩
      · rintro σ H3 ⟨y6, rfl, sm⟩
        exact q H3 (sT.trans sm)
end
end K02

set_option autoImplicit false
set_option maxErrors 4
/-! min of a list of texts, of pairs of an int and a text, and by a key that gives such pairs. -/
namespace Tl
open PySem PySem.Spec PyProof.Rows L2
/-- a before b: the int decides, then the text -/
abbrev ltIS (a b : Int × Str) : Bool := PySem.W.DatumOrd.lt a b
abbrev ltS (a b : Str) : Bool := PySem.W.DatumOrd.lt a b
section
variable {α : Type} [DecidableEq α] [PySem.W.DatumOrd α]
theorem lt_irr (a : α) : PySem.W.DatumOrd.lt a a = false := by
  rw [← PySem.W.DatumOrd.lt_eq]
  exact PySem.W.dataLt_self _
theorem lt_tr {a b c : α} (h1 : PySem.W.DatumOrd.lt a b = true) (h2 : PySem.W.DatumOrd.lt b c = true) : PySem.W.DatumOrd.lt a c = true := by
  rw [← PySem.W.DatumOrd.lt_eq] at *
  exact PyProof.Rows.lex_trans _ _ _ h1 h2
theorem minOf_is (x : α) (xs : List α) : PySem.W.minOf x xs ∈ x :: xs ∧ ∀ y ∈ x :: xs, PySem.W.DatumOrd.lt y (PySem.W.minOf x xs) = false := by
  have key : ∀ (xs : List α) (a : α) (seen : List α), a ∈ seen → (∀ y ∈ seen, PySem.W.DatumOrd.lt y a = false) → (xs.foldl (fun a y => if PySem.W.DatumOrd.lt y a = true then y else a) a) ∈ seen ++ xs ∧ ∀ y ∈ seen ++ xs, PySem.W.DatumOrd.lt y (xs.foldl (fun a y => if PySem.W.DatumOrd.lt y a = true then y else a) a) = false := by
    intro xs
    induction xs with
    | nil =>
      intro a seen m h
      rw [List.append_nil]
      exact ⟨m, h⟩
    | cons z xs ih =>
      intro a seen m h
      have e : seen ++ z :: xs = (seen ++ [z]) ++ xs := by rw [List.append_assoc]; rfl
      rw [e, List.foldl_cons]
      refine ih _ _ ?_ ?_
      · split
        · exact List.mem_append_right _ (List.mem_singleton.mpr rfl)
        · exact List.mem_append_left _ m
      · intro y hy
        rcases List.mem_append.mp hy with hy | hy
        · split
          · rename_i hz
            cases hh : PySem.W.DatumOrd.lt y z with
            | false => rfl
            | true =>
              have := lt_tr hh hz
              rw [h y hy] at this
              cases this
          · exact h y hy
        · rw [List.mem_singleton.mp hy]
          split
          · exact lt_irr z
          · rename_i hz
            simpa using hz
  exact key xs x [x] List.mem_cons_self fun y hy => by rw [List.mem_singleton.mp hy]; exact lt_irr x
end
theorem nat_lt_anti : ∀ (l k : List Nat), ¬ l < k → ¬ k < l → l = k
  | [], [], _, _ => rfl
  | [], y :: k, h, _ => absurd (List.nil_lt_cons y k) h
  | x :: l, [], _, h => absurd (List.nil_lt_cons x l) h
  | x :: l, y :: k, h1, h2 => by
    rw [List.cons_lt_cons_iff] at h1 h2
    have e : x = y := by
      have a : ¬ x < y := fun z => h1 (.inl z)
      have b : ¬ y < x := fun z => h2 (.inl z)
      omega
    subst e
    rw [nat_lt_anti l k (fun z => h1 (.inr ⟨rfl, z⟩)) (fun z => h2 (.inr ⟨rfl, z⟩))]
theorem ltS_anti {a b : Str} (h1 : ltS a b = false) (h2 : ltS b a = false) : a = b := by
  have e := nat_lt_anti _ _ (of_decide_eq_false h1) (of_decide_eq_false h2)
  exact PySem.W.str_of_cps e
theorem ltIS_anti {a b : Int × Str} (h1 : ltIS a b = false) (h2 : ltIS b a = false) : a = b := by
  obtain ⟨a1, a2⟩ := a
  obtain ⟨b1, b2⟩ := b
  have h1 : (if a1 = b1 then ltS a2 b2 else decide (a1 < b1)) = false := h1
  have h2 : (if b1 = a1 then ltS b2 a2 else decide (b1 < a1)) = false := h2
  by_cases e : a1 = b1
  · subst e
    rw [if_pos rfl] at h1 h2
    rw [ltS_anti h1 h2]
  · rw [if_neg e] at h1
    rw [if_neg (Ne.symm e)] at h2
    have := of_decide_eq_false h1
    have := of_decide_eq_false h2
    omega
section
variable {X : Cx}
/-- min(xs), xs a list of texts -/
def rMinS (K : PySem.W.Frag) : List V → Hp → VK → Prop := fun vs H Q => ∃ (a : Addr) (xs : List Str), vs = [V.ref a] ∧ SqL K H a (xs.map V.str) ∧ xs ≠ [] ∧ ∀ m, m ∈ xs → (∀ y ∈ xs, ltS y m = false) → Q (.str m) H
theorem cr_minS (hc : X.calm = true) (hu : X.A.units + 10 < cLine) : CallR X (.builtin "min") (rMinS X.K) := by
  intro pins s σ H vs us Q I r h
  obtain ⟨a, xs, rfl, hs, ne, q⟩ := h
  obtain ⟨its, rv, hl, _⟩ := I.list hs
  rw [Vals.ref1 r]
  cases xs with
  | nil => exact absurd rfl ne
  | cons x xs =>
    obtain ⟨m1, m2⟩ := minOf_is x xs
    refine PySem.W.min_list_datum (x := x) (xs := xs) (I.ok.hd hc) hl.isList (PySem.W.HoldAll.of_strs rv.strs) (by have : PySem.W.Datum.depth Str = 0 := rfl; omega) fun i v h' tk hi hold hk => ?_
    obtain ⟨t, rfl⟩ := PySem.W.str_of_holds hold
    exact ⟨.str _, H, I.kept hk, ⟨_, rfl⟩, q _ m1 m2⟩
/-- a tuple of an int and a text -/
theorem holdP {pins : List (Addr × Obj)} {σ : L2.St} {H : Hp} {s : Shared} (I : Inv X pins σ H s) {t : Addr} {n : Int} {z : Str} (h : H t = some (.tup [.int n, .str z])) : PySem.W.Holds s.heap (.ref t) ((n, z) : Int × Str) := by
  obtain ⟨its, rv, hl, _⟩ := I.tuple (SqT.of h)
  cases rv with
  | cons r1 rv =>
    cases rv with
    | cons r2 rv =>
      cases rv
      obtain ⟨k1, rfl⟩ := r1
      obtain ⟨k2, rfl⟩ := r2
      exact PySem.W.holds_pair hl (PySem.W.holds_int _ _) (PySem.W.holds_str _ _)
/-- min(xs), xs a list of tuples of an int and a text -/
def rMinP (K : PySem.W.Frag) : List V → Hp → VK → Prop := fun vs H Q => ∃ (a : Addr) (ps : List ((Int × Str) × Addr)), vs = [V.ref a] ∧ SqL K H a (ps.map fun p => V.ref p.2) ∧ (∀ p ∈ ps, H p.2 = some (.tup [.int p.1.1, .str p.1.2])) ∧ ps ≠ [] ∧
  ∀ m, m ∈ ps → (∀ y ∈ ps, ltIS y.1 m.1 = false) → Q (.ref m.2) H
theorem cr_minP (hc : X.calm = true) (hu : X.A.units + 10 < cLine) : CallR X (.builtin "min") (rMinP X.K) := by
  intro pins s σ H vs us Q I r h
  obtain ⟨a, ps, rfl, hs, hp, ne, q⟩ := h
  obtain ⟨its, rv, hl, _⟩ := I.list hs
  rw [Vals.ref1 r]
  have all : PySem.W.HoldAll s.heap its (ps.map (·.1)) := by
    have key : ∀ (ps : List ((Int × Str) × Addr)) (its : List Value), Vals (ps.map fun p => V.ref p.2) its → (∀ p ∈ ps, H p.2 = some (.tup [.int p.1.1, .str p.1.2])) → PySem.W.HoldAll s.heap its (ps.map (·.1)) := by
      intro ps
      induction ps with
      | nil =>
        intro its rv _
        cases rv
        exact PySem.W.HoldAll.nil
      | cons p ps ih =>
        intro its rv hp
        cases rv with
        | cons r1 rv =>
          cases r1
          exact PySem.W.HoldAll.cons (holdP I (hp p List.mem_cons_self)) (ih _ rv fun y hy => hp y (List.mem_cons_of_mem _ hy))
    exact key ps its rv hp
  cases ps with
  | nil => exact absurd rfl ne
  | cons p0 ps0 =>
    rw [List.map_cons] at all
    obtain ⟨m1, m2⟩ := minOf_is p0.1 (ps0.map (·.1))
    refine PySem.W.min_list_datum (x := p0.1) (xs := ps0.map (·.1)) (I.ok.hd hc) hl.isList all (Nat.lt_of_le_of_lt (Nat.add_le_add_left (show _ ≤ 2 by decide) _) (by omega)) fun i v h' tk hi hold hk => ?_
    -- the value is one of the list
    have hi2 : its[i]? = some v := by simpa using hi
    have il : i < (p0 :: ps0).length := by
      have := (List.getElem?_eq_some_iff.mp hi2).1
      have l := rv.length
      rw [List.length_map] at l
      omega
    have ev : v = .ref (p0 :: ps0)[i].2 := by
      obtain ⟨u, hu1, hu2⟩ := rv.get (i := i) (x := V.ref (p0 :: ps0)[i].2) (by rw [List.getElem?_map, List.getElem?_eq_getElem il]; rfl)
      rw [hi2] at hu1
      cases hu1
      exact hu2
    subst ev
    have I2 : Inv X pins σ H { s with heap := h', toks := tk } := I.kept hk
    have hv := holdP I2 (hp _ (List.getElem_mem il))
    have em : (p0 :: ps0)[i].1 = PySem.W.minOf p0.1 (ps0.map (·.1)) := by
      obtain ⟨l1, a1, b1, e1, t1, ha1, hb1⟩ := PySem.W.pair_of_holds hv
      obtain ⟨l2, a2, b2, e2, t2, ha2, hb2⟩ := PySem.W.pair_of_holds hold
      cases e1
      cases e2
      obtain ⟨o1, g1, _, n1, d1⟩ := t1
      obtain ⟨o2, g2, _, n2, d2⟩ := t2
      rw [g1] at g2
      cases g2
      rw [d1] at d2
      cases d2
      obtain ⟨k1, f1⟩ := PySem.W.int_of_holds ha1
      obtain ⟨k2, f2⟩ := PySem.W.int_of_holds ha2
      obtain ⟨k3, f3⟩ := PySem.W.str_of_holds hb1
      obtain ⟨k4, f4⟩ := PySem.W.str_of_holds hb2
      rw [f1] at f2
      rw [f3] at f4
      injection f2 with f2
      injection f4 with f4
      exact Prod.ext f2 f4
    refine ⟨.ref _, H, I2, rfl, q _ (List.getElem_mem il) fun y hy => ?_⟩
    rw [em]
    exact m2 _ (by rw [← List.map_cons (f := fun x : (Int × Str) × Addr => x.1)]; exact List.mem_map.mpr ⟨y, hy, rfl⟩)
end
end Tl

set_option autoImplicit false
set_option maxErrors 4
/-! max(xs, default=d), xs a list of ints. -/
namespace Tl
open PySem PySem.Spec PyProof.Rows L2
theorem maxInt_is (x : Int) (xs : List Int) : PySem.W.maxOf x xs ∈ x :: xs ∧ ∀ y ∈ x :: xs, y ≤ PySem.W.maxOf x xs := by
  have key : ∀ (xs : List Int) (a : Int) (seen : List Int), a ∈ seen → (∀ y ∈ seen, y ≤ a) → (xs.foldl (fun a y => if PySem.W.DatumOrd.lt a y = true then y else a) a) ∈ seen ++ xs ∧ ∀ y ∈ seen ++ xs, y ≤ (xs.foldl (fun a y => if PySem.W.DatumOrd.lt a y = true then y else a) a) := by
    intro xs
    induction xs with
    | nil =>
      intro a seen m h
      rw [List.append_nil]
      exact ⟨m, h⟩
    | cons z xs ih =>
      intro a seen m h
      have e : seen ++ z :: xs = (seen ++ [z]) ++ xs := by rw [List.append_assoc]; rfl
      rw [e, List.foldl_cons]
      have lt : PySem.W.DatumOrd.lt a z = decide (a < z) := rfl
      by_cases c : a < z
      · rw [lt, decide_eq_true c, if_pos rfl]
        refine ih _ _ (List.mem_append_right _ (List.mem_singleton.mpr rfl)) fun y hy => ?_
        rcases List.mem_append.mp hy with hy | hy
        · have := h y hy
          omega
        · rw [List.mem_singleton.mp hy]
          exact Int.le_refl _
      · rw [lt, decide_eq_false c, if_neg (by simp)]
        refine ih _ _ (List.mem_append_left _ m) fun y hy => ?_
        rcases List.mem_append.mp hy with hy | hy
        · exact h y hy
        · rw [List.mem_singleton.mp hy]
          omega
  exact key xs x [x] List.mem_cons_self fun y hy => by rw [List.mem_singleton.mp hy]; exact Int.le_refl _
section
variable {X : Cx}
def rMaxD (K : PySem.W.Frag) : List V → List V → Hp → VK → Prop := fun vs zs H Q => ∃ (a : Addr) (ns : List Int) (d : Int), vs = [V.ref a] ∧ zs = [V.int d] ∧ SqL K H a (ns.map V.int) ∧ (ns = [] → Q (.int d) H) ∧ ∀ m ∈ ns, (∀ y ∈ ns, y ≤ m) → Q (.int m) H
theorem cr_maxDef (hc : X.calm = true) (hu : X.A.units + 10 < cLine) : CallRK X (.builtin "max") [Str.ofString "default"] (rMaxD X.K) := by
  intro pins s σ H vs zs us ws Q I r1 r2 h
  obtain ⟨a, ns, d, rfl, rfl, hs, q0, q⟩ := h
  obtain ⟨its, rv, hl, _⟩ := I.list hs
  rw [Vals.ref1 r1]
  cases r2 with
  | cons rd rn =>
    cases rn
    obtain ⟨kd, rfl⟩ := rd
    refine PySem.W.max_list_datum_default (α := Int) (xs := ns) (I.ok.hd hc) hl.isList (PySem.W.HoldAll.of_ints (intsAre_of rv)) (by have : PySem.W.Datum.depth Int = 0 := rfl; omega) (fun e h' tk hk => ?_) fun y ys i v h' tk e hi hold hk => ?_
    · exact ⟨.int d, H, I.kept hk, ⟨_, rfl⟩, q0 e⟩
    · obtain ⟨t, rfl⟩ := PySem.W.int_of_holds hold
      obtain ⟨m1, m2⟩ := maxInt_is y ys
      rw [← e] at m1 m2
      exact ⟨.int _, H, I.kept hk, ⟨_, rfl⟩, q _ m1 m2⟩
end
end Tl

set_option autoImplicit false
set_option maxErrors 4
namespace K02
open PySem PySem.Spec PyProof.Rows L2 Tl
/-! ### what is never reached; the classes of items -/
theorem pe_no {X : Cx} {e : Expr} : PE X e (fun _ _ _ => False) := ⟨fun _ _ _ _ _ _ h => h.elim⟩
/-- the classes and the limits that items and forms ask -/
structure Town (K : PySem.W.Frag) (mg : Str → Option Value) (C KC NC FC MC YC OC : Addr) : Prop where
  fam : Fam K [C, KC, FC, MC, YC, OC]
  kd : KindC K KC
  net : NetC K NC
  gK : mg "Kind" = some (.ref KC)
  clF : Cls K FC
  clM : Cls K MC
  clY : Cls K YC
  clO : Cls K OC
  gF : mg "Field" = some (.ref FC)
  gM : mg "Mark" = some (.ref MC)
  gY : mg "Maybe" = some (.ref YC)
  gO : mg "Form" = some (.ref OC)
  nF1 : NoAttr K FC "name"
  nF2 : NoAttr K FC "kind"
  nM : NoAttr K MC "text"
  nY : NoAttr K YC "parts"
  nO1 : NoAttr K OC "lines"
  nO2 : NoAttr K OC "fields"
  nO3 : NoAttr K OC "net"
  nO4 : NoAttr K OC "holders"
  nO5 : NoAttr K OC "owner_sets"
  name : ∃ t, mg "LONGEST_NAME" = some (.int 12 t)
  mark : ∃ t, mg "LONGEST_MARK" = some (.int 200 t)
  deep : ∃ t, mg "DEEPEST_GROUP" = some (.int 3 t)
  size : ∃ t, mg "MOST_PLACES_items" = some (.int 200 t)
  lines : ∃ t, mg "MOST_LINES" = some (.int 10 t)
  fields : ∃ t, mg "MOST_FIELDS" = some (.int 12 t)
/-- the kind of the word a -/
def rowA : List RowL := [[(tx [97], 1, some 1)]]
theorem netA_chars : (kindN rowA).chars = [tx [97]] := by decide +kernel
theorem netA_exits : (kindN rowA).exits = 2 := by decide +kernel
theorem netA_ok : (kindN rowA).Ok := by
  unfold LNet.Ok
  decide +kernel
/-- a field of the name a -/
def FldAt (FC KC NC : Addr) (H : Hp) (a : Addr) : Prop := ∃ dx k, H a = some (.ins FC dx [("name", .str "a"), ("kind", .ref k)]) ∧ KindAt KC NC H k rowA
theorem FldAt.same {FC KC NC : Addr} {H H' : Hp} {a : Addr} (h : FldAt FC KC NC H a) (s : Same H H') : FldAt FC KC NC H' a := by
  obtain ⟨dx, k, h1, h2⟩ := h
  exact ⟨dx, k, s _ _ h1, h2.same s⟩
section
variable {P : Program} {w : World} {K : PySem.W.Frag} {mg : Str → Option Value} {base : Heap} {C KC NC FC MC YC OC : Addr}
theorem Town.kit (T : Town K mg C KC NC FC MC YC OC) {A B : Addr} (hA : A ∈ [C, KC, FC, MC, YC, OC]) (hB : B ∈ [C, KC, FC, MC, YC, OC]) : PySem.W.kitOne K (.ref A) (.ref B) = some (decide (A = B)) := T.fam.kit A hA B hB
theorem Town.ne (T : Town K mg C KC NC FC MC YC OC) : FC ≠ MC ∧ FC ≠ YC ∧ FC ≠ OC ∧ MC ≠ YC ∧ KC ≠ FC := by
  have z := T.fam.nd
  simp only [List.nodup_cons, List.mem_cons, List.not_mem_nil, or_false, not_or] at z
  obtain ⟨_, ⟨a1, _⟩, ⟨b1, b2, b3⟩, ⟨c1, _⟩, _⟩ := z
  exact ⟨b1, b2, b3, c1, a1⟩
theorem Town.own (T : Town K mg C KC NC FC MC YC OC) {A : Addr} (hA : A ∈ [C, KC, FC, MC, YC, OC]) : PySem.W.kitOne K (.ref A) (.ref A) = some true := by
  rw [T.kit hA hA, decide_eq_true rfl]
theorem Town.no (T : Town K mg C KC NC FC MC YC OC) {A B : Addr} (hA : A ∈ [C, KC, FC, MC, YC, OC]) (hB : B ∈ [C, KC, FC, MC, YC, OC]) (ne : A ≠ B) : PySem.W.kitOne K (.ref A) (.ref B) = some false := by
  rw [T.kit hA hB, decide_eq_false ne]
theorem mF : FC ∈ [C, KC, FC, MC, YC, OC] := by simp
theorem mM : MC ∈ [C, KC, FC, MC, YC, OC] := by simp
theorem mY : YC ∈ [C, KC, FC, MC, YC, OC] := by simp
theorem mK : KC ∈ [C, KC, FC, MC, YC, OC] := by simp
theorem mO : OC ∈ [C, KC, FC, MC, YC, OC] := by simp
theorem FldAt.ty (T : Town K mg C KC NC FC MC YC OC) {H : Hp} {a : Addr} (h : FldAt FC KC NC H a) : TyX K H (.ref a) (.ref FC) := by
  obtain ⟨dx, k, h1, _⟩ := h
  exact (T.fam.sees FC mF).ty T.clF h1
theorem kit3 {t : Value} {c1 c2 c3 : Value} {b1 b2 b3 : Bool} (k1 : PySem.W.kitOne K t c1 = some b1) (k2 : PySem.W.kitOne K t c2 = some b2) (k3 : PySem.W.kitOne K t c3 = some b3) : PySem.W.kitAny K t [c1, c2, c3] = some (b1 || (b2 || b3)) := by
  unfold PySem.W.kitAny
  rw [k1]
  cases b1 with
  | true => rfl
  | false =>
    show PySem.W.kitAny K t [c2, c3] = _
    unfold PySem.W.kitAny
    rw [k2]
    cases b2 with
    | true => rfl
    | false =>
      show PySem.W.kitAny K t [c3] = _
      unfold PySem.W.kitAny
      rw [k3]
      cases b3 <;> rfl
def spSf0 : Sp := fun vs H Q _ => ∃ n : Addr, vs = [.ref n, .int 1, .str ""] ∧ Q (.int 1) H
set_option maxHeartbeats 20000000 in
theorem ok_sf0 {f : Addr} {fd : FuncData} (F : FnP K "stand_from" "stand_from" s_stand_from f fd)  : FnOk P w K mg base CX0 1 f fd ["net", "start", "text"] spSf0 := by
  have nd := sc_stand_from.nd
  refine F.ok sc_stand_from (fun vs H Q E h => ?_) (fun cdv A outer s H vs Q E hr h => ?_)
  · obtain ⟨n, rfl, q⟩ := h
    rfl
  · obtain ⟨n, rfl, q⟩ := h
    refine ⟨_, PSs.nox (pss_cons (ps_set (i := 3) nd rfl (.inl rfl) (pv 1)) (pss_cons (ps_for PassesOwn.never rfl (pi_str (pv 2)) (pg_name (i := 4) nd rfl (.inl rfl)) pss_never) (pss_one (ps_ret (pv 3))))), ?_⟩
    refine ⟨_, rfl, ?_⟩
    refine name_go ?_
    dsimp only
    refine seq_go ?_
    refine ⟨_, rfl, "", rfl, ?_⟩
    refine for_it (n := ("" : Str).cps.size) walk_str (fun i σ H' => ∃ x4, σ = [some (.ref n), some (.int 1), some (.str ""), some (.int 1), x4] ∧ H' = H) ⟨none, rfl, rfl⟩ (fun _ _ _ _ _ => True.intro) ?_ ?_
    · intro i x σ H1 H2 hi
      exact absurd hi (Nat.not_lt_zero i)
    · rintro σ H1 ⟨x4, rfl, rfl⟩
      exact ⟨_, rfl, q⟩
def spSa0 : Sp := fun vs H Q _ => ∃ n : Addr, vs = [.ref n, .str ""] ∧ Q (.int 1) H
set_option maxHeartbeats 20000000 in
theorem ok_sa0 {f : Addr} {fd : FuncData} (F : FnP K "stand_after" "stand_after" s_stand_after f fd) (gS : ∃ t, mg "START" = some (.int 1 t)) (C_stand_from : Can P w K mg base CX0 "stand_from" ["net", "start", "text"] 1 spSf0) : FnOk P w K mg base CX0 2 f fd ["net", "text"] spSa0 := by
  obtain ⟨f_stand_from, fd_stand_from, G_stand_from, g_stand_from, k_stand_from, b_stand_from⟩ := C_stand_from
  obtain ⟨tS, gS⟩ := gS
  refine F.ok sc_stand_after (fun vs H Q E h => ?_) (fun cdv A outer s H vs Q E hr h => ?_)
  · obtain ⟨n, rfl, q⟩ := h
    rfl
  · obtain ⟨n, rfl, q⟩ := h
    refine ⟨_, PSs.nox (pss_one (ps_ret (pe_call G_stand_from hr (by rfl) g_stand_from k_stand_from b_stand_from .nil pass0 (pa_cons (pv 0) (pa_cons (pe_glob (v := .int 1) (by rfl) gS ⟨_, rfl⟩) (pa_cons (pv 1) pa_nil)))))), ?_⟩
    exact ⟨_, rfl, _, rfl, n, rfl, q⟩
def spTk0 (NC : Addr) : Sp := fun vs H Q _ => ∃ (n : Addr) (N : LNet), vs = [.ref n, .str ""] ∧ NetAt NC H n N ∧ N.exits = 2 ∧ Q (.bl false) H
set_option maxHeartbeats 20000000 in
theorem ok_tk0 {f : Addr} {fd : FuncData} (F : FnP K "takes" "takes" s_takes f fd) (T : Town K mg C KC NC FC MC YC OC) (C_stand_after : Can P w K mg base CX0 "stand_after" ["net", "text"] 2 spSa0) : FnOk P w K mg base CX0 3 f fd ["net", "text"] (spTk0 NC) := by
  obtain ⟨f_stand_after, fd_stand_after, G_stand_after, g_stand_after, k_stand_after, b_stand_after⟩ := C_stand_after
  refine F.ok sc_takes (fun vs H Q E h => ?_) (fun cdv A outer s H vs Q E hr h => ?_)
  · obtain ⟨n, N, rfl, at_, ex, q⟩ := h
    rfl
  · obtain ⟨n, N, rfl, at_, ex, q⟩ := h
    refine ⟨_, PSs.nox (pss_one (ps_ret (pe_cmpR op_ne (pe_op op_andNat (pe_call G_stand_after hr (by rfl) g_stand_after k_stand_after b_stand_after .nil pass0 (pa_cons (pv 0) (pa_cons (pv 1) pa_nil))) (pe_fld (pv 0) rfl)) pe_int (nomark _)))), ?_⟩
    obtain ⟨dx, c, fo, d, h1, h2, h3, h4⟩ := id at_
    rw [ex] at h1
    exact ⟨_, rfl, _, rfl, n, rfl, _, rfl, n, NC, dx, _, _, rfl, h1, T.net.cl, T.net.n3, (lk_ne (by decide +kernel)).trans ((lk_ne (by decide +kernel)).trans lk_hit), 1, 2, rfl, rfl, rfl, q⟩
def spHe (KC NC : Addr) : Sp := fun vs H Q _ => ∃ k : Addr, vs = [.ref k] ∧ KindAt KC NC H k rowA ∧ Q (.bl false) H
set_option maxHeartbeats 20000000 in
theorem ok_he {f : Addr} {fd : FuncData} (F : FunD K "has_empty" "Kind.has_empty" (defArgs s_Kindhas_empty) (defBody s_Kindhas_empty) (defScope s_Kindhas_empty) [] [] f fd) (T : Town K mg C KC NC FC MC YC OC) (C_takes : Can P w K mg base CX0 "takes" ["net", "text"] 3 (spTk0 NC)) : FnOk P w K mg base CX0 4 f fd ["self"] (spHe KC NC) := by
  obtain ⟨f_takes, fd_takes, G_takes, g_takes, k_takes, b_takes⟩ := C_takes
  refine F.ok sc_Kindhas_empty (fun vs H Q E h => ?_) (fun cdv A outer s H vs Q E hr h => ?_)
  · obtain ⟨k, rfl, _⟩ := h
    rfl
  · obtain ⟨k, rfl, ⟨dx, t, n, rs, h1, h2, h3, h4, h5⟩, q⟩ := h
    refine ⟨_, PSs.nox (pss_one (ps_ret (pe_call G_takes hr (by rfl) g_takes k_takes b_takes .nil pass0 (pa_cons (pe_fld (pv 0) rfl) (pa_cons pe_str pa_nil))))), ?_⟩
    exact ⟨_, rfl, k, KC, dx, _, _, rfl, h1, T.kd.cl, T.kd.n2, (lk_ne (by decide +kernel)).trans lk_hit, n, _, rfl, h5, netA_exits, q⟩
def spRowL (K : PySem.W.Frag) : Sp := fun vs H Q _ => ∃ a xs, vs = [V.ref a] ∧ H a = some (.lst xs) ∧ Gives H Q (.bl true)
set_option maxHeartbeats 20000000 in
theorem ok_is_row {f : Addr} {fd : FuncData} (F : FnP K "is_row" "is_row" s_is_row f fd) (N : Nms mg) : FnOk P w K mg base CX0 1 f fd ["thing"] (spRowL K) := by
  refine F.ok sc_is_row (fun vs H Q E h => ?_) (fun cdv A outer s H vs Q E hr h => ?_)
  · obtain ⟨a, xs, rfl, ha, q⟩ := h
    rfl
  · obtain ⟨a, xs, rfl, ha, q⟩ := h
    refine ⟨_, PSs.nox (pss_one (ps_ret (pe_callB call_isiT (by rfl) N.isi (by decide +kernel) (pa_cons (pv 0) (pa_cons (pe_tup (pa_cons (pe_bltn (v := .ty "list") (by rfl) N.list (by decide +kernel) rfl) (pa_cons (pe_bltn (v := .ty "tuple") (by rfl) N.tuple (by decide +kernel) rfl) pa_nil))) pa_nil))))), ?_⟩
    refine ⟨_, rfl, line_small (by show 2 ≤ 16777216; decide), fun p hp => ?_⟩
    have sm := same_new (o := .tup [.ty "list", .ty "tuple"]) hp
    exact ⟨_, p, _, .type "list", [.type "list", .type "tuple"], true || false, rfl, upd_same, .cons (.ty "list") (.cons (.ty "tuple") .nil), .base (.lst (sm _ _ ha)), kit2 (kit_ty (by decide +kernel)) (kit_ty (by decide +kernel)), q _ sm⟩
def spName : Sp := fun vs H Q _ => vs = [V.str "a"] ∧ Gives H Q (.bl true)
set_option maxHeartbeats 20000000 in
theorem ok_is_name {f : Addr} {fd : FuncData} (F : FnP K "is_name" "is_name" s_is_name f fd) (T : Town K mg C KC NC FC MC YC OC) (N : Nms mg) : FnOk P w K mg base CX0 1 f fd ["thing"] spName := by
  obtain ⟨tN, gN⟩ := T.name
  have nd := sc_is_name.nd
  refine F.ok sc_is_name (fun vs H Q E h => ?_) (fun cdv A outer s H vs Q E hr h => ?_)
  · obtain ⟨rfl, q⟩ := h
    rfl
  · obtain ⟨rfl, q⟩ := h
    refine ⟨_, PSs.nox (pss_cons (ps_if (PW.pt (pw_or (pt_not (pt_val (pe_callB call_isi (by rfl) N.isi (by decide +kernel) (pa_cons (pv 0) (pa_cons (pe_bltn (v := .ty "str") (by rfl) N.str (by decide +kernel) rfl) pa_nil))))) (pw_or1 (pt_not (pt_chain op_le op_le pe_int (pe_callB call_len_str (by rfl) N.len PySem.boot_len (pa_cons (pv 0) pa_nil)) (pe_glob (v := .int 12) (by rfl) gN ⟨_, rfl⟩)))))) (pss_one (ps_ret pe_bl)) pss_nil)
      (pss_one (ps_ret (pe_callB (cr_all rfl) (by rfl) N.all (by decide +kernel) (pa_cons (pe_lc (own := [("letter", 1)]) (g := gName 1) (tt := tYes) rfl nd (pi_str (pv 0)) (blkOk_by (N := ["thing", "letter"]) (sc := defScope s_is_name) (by decide +kernel)) (fun _ _ _ _ _ => pg_name (i := 1) nd rfl (Or.inl rfl)) (fun _ _ _ _ _ => pts_nil)
        (fun _ _ _ _ _ => pe_chain op_le_str op_le_str pe_str (pv 1) pe_str)) pa_nil))))), ?_⟩
    refine ⟨_, rfl, _, _, _, _, true, rfl, .ty "str", .base (.str _), kit_ty (by decide +kernel), _, rfl, iteF ?_⟩
    refine ⟨_, rfl, "a", rfl, line_small (by show 1 ≤ 16777216; decide), _, _, rfl, rfl, true, rfl, iteT ?_⟩
    refine ⟨_, _, rfl, rfl, true, rfl, iteF ?_⟩
    unfold tNext tRet
    dsimp only
    refine cb_one ?_
    refine lc_tx (l := [97]) (p := fun _ => true) (f := fun n => V.bl true) (i := 1) (by decide) (fun Q' z => ⟨_, rfl, z⟩) (fun _ => rfl) (fun n H2 Qb _ z => z) (fun n H2 Q' hn z => ?_) fun D hD => ?_
    · rw [List.mem_singleton.mp hn]
      exact ⟨_, rfl, sg 97, sg 97, rfl, rfl, true, rfl, iteT ⟨sg 97, sg 122, rfl, rfl, z⟩⟩
    · exact ⟨D, [true], rfl, SqL.of upd_same, q _ (same_new hD)⟩
def spFk (KC NC : Addr) : Sp := fun vs H Q _ => ∃ k : Addr, vs = [.ref k] ∧ KindAt KC NC H k rowA ∧ Q (.bl true) H
set_option maxHeartbeats 20000000 in
theorem ok_fk {f : Addr} {fd : FuncData} (F : FnP K "is_field_kind" "is_field_kind" s_is_field_kind f fd) (T : Town K mg C KC NC FC MC YC OC) (N : Nms mg) {pH fH : Addr} {fdH : FuncData} (PH : PropOf K KC "has_empty" pH fH) (GH : FnOk P w K mg base CX0 4 fH fdH ["self"] (spHe KC NC)) (bH : Binds K fdH ["self"] []) : FnOk P w K mg base CX0 6 f fd ["thing"] (spFk KC NC) := by
  refine F.ok sc_is_field_kind (fun vs H Q E h => ?_) (fun cdv A outer s H vs Q E hr h => ?_)
  · obtain ⟨k, rfl, ka, q⟩ := h
    rfl
  · obtain ⟨k, rfl, ka, q⟩ := h
    refine ⟨_, PSs.nox (pss_one (ps_ret (pe_and (pe_callB call_isi (by rfl) N.isi (by decide +kernel) (pa_cons (pv 0) (pa_cons (pe_glob (v := .ref KC) rfl T.gK rfl) pa_nil))) (pe_one (pe_not (pe_prop (pv 0) T.kd.cl PH GH hr bH .nil pass0 rfl)))))), ?_⟩
    obtain ⟨dx, t, n, rs, h1, h2, h3, h4, h5⟩ := id ka
    exact ⟨_, rfl, _, _, _, _, true, rfl, .own KC, (T.fam.sees KC mK).ty T.kd.cl h1, T.own mK, true, rfl, iteT ⟨_, rfl, k, dx, _, rfl, h1, k, rfl, ka, _, rfl, q⟩⟩
def spFinit (FC KC NC : Addr) : Sp := fun vs H Q _ => ∃ p dx k : Addr, vs = [.ref p, .str "a", .ref k] ∧ H p = some (.ins FC dx []) ∧ KindAt KC NC H k rowA ∧ ∀ H', But p H H' → H' p = some (.ins FC dx [("name", .str "a"), ("kind", .ref k)]) → Q .non H'
set_option maxHeartbeats 20000000 in
theorem ok_f_init {f : Addr} {fd : FuncData} (F : FnP K "__init__" "Field.__init__" s_Field_init_ f fd) (T : Town K mg C KC NC FC MC YC OC) (C_is_name : Can P w K mg base CX0 "is_name" ["thing"] 1 spName) (C_is_field_kind : Can P w K mg base CX0 "is_field_kind" ["thing"] 6 (spFk KC NC)) : FnOk P w K mg base CX0 7 f fd ["self", "name", "kind"] (spFinit FC KC NC) := by
  obtain ⟨f_is_name, fd_is_name, G_is_name, g_is_name, k_is_name, b_is_name⟩ := C_is_name
  obtain ⟨f_is_field_kind, fd_is_field_kind, G_is_field_kind, g_is_field_kind, k_is_field_kind, b_is_field_kind⟩ := C_is_field_kind
  have nd := sc_Field_init_.nd
  refine F.ok sc_Field_init_ (fun vs H Q E h => ?_) (fun cdv A outer s H vs Q E hr h => ?_)
  · obtain ⟨p, dx, k, rfl, hp, ka, q⟩ := h
    rfl
  · obtain ⟨p, dx, k, rfl, hp, ka, q⟩ := h
    refine ⟨_, PSs.nox (pss_cons (ps_if (pt_not (pt_val (pe_call G_is_name (hr.mono (by decide)) (by rfl) g_is_name k_is_name b_is_name .nil pass0 (pa_cons (pv 1) pa_nil)))) (pss_one ps_never) pss_nil) (pss_cons (ps_if (pt_not (pt_val (pe_call G_is_field_kind hr (by rfl) g_is_field_kind k_is_field_kind b_is_field_kind .nil pass0 (pa_cons (pv 2) pa_nil)))) (pss_one ps_never) pss_nil) (pss_cons (ps_fld (pv 0) (pv 1) rfl) (pss_one (ps_fld (pv 0) (pv 2) rfl))))), ?_⟩
    refine ⟨_, rfl, rfl, fun H1 s1 => ⟨_, rfl, iteF ?_⟩⟩
    refine ⟨_, rfl, k, rfl, ka.same s1, _, rfl, iteF ?_⟩
    refine ⟨_, rfl, _, rfl, p, FC, dx, _, rfl, s1 _ _ hp, T.clF, T.nF1, (by show 0 < 1000; decide), ?_⟩
    refine ⟨_, rfl, _, rfl, p, FC, dx, _, rfl, upd_same, T.clF, T.nF2, (by show 1 < 1000; decide), ?_⟩
    refine q _ (fun x o e nx => ?_) ?_
    · rw [upd_over, upd_ne nx]
      exact s1 _ _ e
    · rw [upd_same]
      rfl
def spMinit (MC : Addr) : Sp := fun vs H Q _ => ∃ p dx : Addr, vs = [.ref p, .str "a"] ∧ H p = some (.ins MC dx []) ∧ ∀ H', But p H H' → H' p = some (.ins MC dx [("text", .str "a")]) → Q .non H'
set_option maxHeartbeats 20000000 in
theorem ok_m_init {f : Addr} {fd : FuncData} (F : FnP K "__init__" "Mark.__init__" s_Mark_init_ f fd) (T : Town K mg C KC NC FC MC YC OC) (N : Nms mg) (C_is_sign_text : Can P w K mg base CX0 "is_sign_text" ["thing"] 1 (spTextA K C)) : FnOk P w K mg base CX0 2 f fd ["self", "text"] (spMinit MC) := by
  obtain ⟨f_is_sign_text, fd_is_sign_text, G_is_sign_text, g_is_sign_text, k_is_sign_text, b_is_sign_text⟩ := C_is_sign_text
  obtain ⟨tN, gN⟩ := T.mark
  have nd := sc_Mark_init_.nd
  refine F.ok sc_Mark_init_ (fun vs H Q E h => ?_) (fun cdv A outer s H vs Q E hr h => ?_)
  · obtain ⟨p, dx, rfl, hp, q⟩ := h
    rfl
  · obtain ⟨p, dx, rfl, hp, q⟩ := h
    refine ⟨_, PSs.nox (pss_cons (ps_if (PW.pt (pw_or (pt_not (pt_val (pe_call G_is_sign_text hr (by rfl) g_is_sign_text k_is_sign_text b_is_sign_text .nil pass0 (pa_cons (pv 1) pa_nil)))) (pw_or1 (pt_not (pt_chain op_le op_le pe_int (pe_callB call_len_str (by rfl) N.len PySem.boot_len (pa_cons (pv 1) pa_nil)) (pe_glob (v := .int 200) (by rfl) gN ⟨_, rfl⟩)))))) (pss_one ps_never) pss_nil) (pss_one (ps_fld (pv 0) (pv 1) rfl))), ?_⟩
    refine ⟨_, rfl, .str (tx [97]), _, rfl, .txt (by decide), (fun a z => by cases z), fun H1 s1 => ⟨_, rfl, ?_⟩⟩
    have al : (([97] : List Nat).all fun n => decide (n ∈ alpha)) = true := by decide +kernel
    rw [al]
    refine iteF ?_
    refine ⟨_, rfl, "a", rfl, line_small (by show 1 ≤ 16777216; decide), _, _, rfl, rfl, true, rfl, iteT ?_⟩
    refine ⟨_, _, rfl, rfl, true, rfl, iteF ?_⟩
    refine ⟨_, rfl, _, rfl, p, MC, dx, _, rfl, s1 _ _ hp, T.clM, T.nM, (by show 0 < 1000; decide), ?_⟩
    refine q _ (fun x o e nx => ?_) upd_same
    rw [upd_ne nx]
    exact s1 _ _ e
end
end K02

set_option autoImplicit false
set_option maxErrors 4
namespace K02
open PySem PySem.Spec PyProof.Rows L2 Tl
/-! ### rows of one field; groups -/
theorem pt_no {X : Cx} {e : Expr} : PT X e (fun _ _ _ => False) := ⟨fun _ _ _ _ _ _ h => h.elim⟩
section
variable {P : Program} {w : World} {K : PySem.W.Frag} {mg : Str → Option Value} {base : Heap} {C KC NC FC MC YC OC : Addr}
def spItem (FC KC NC : Addr) : Sp := fun vs H Q _ => ∃ fa : Addr, vs = [.ref fa] ∧ FldAt FC KC NC H fa ∧ Gives H Q (.bl true)
set_option maxHeartbeats 20000000 in
theorem ok_is_item {f : Addr} {fd : FuncData} (F : FnP K "is_item" "is_item" s_is_item f fd) (T : Town K mg C KC NC FC MC YC OC) (N : Nms mg) : FnOk P w K mg base CX0 1 f fd ["thing"] (spItem FC KC NC) := by
  refine F.ok sc_is_item (fun vs H Q E h => ?_) (fun cdv A outer s H vs Q E hr h => ?_)
  · obtain ⟨fa, rfl, hF, q⟩ := h
    rfl
  · obtain ⟨fa, rfl, hF, q⟩ := h
    refine ⟨_, PSs.nox (pss_one (ps_ret (pe_callB call_isiT (by rfl) N.isi (by decide +kernel) (pa_cons (pv 0) (pa_cons (pe_tup (pa_cons (pe_glob (v := .ref FC) rfl T.gF rfl) (pa_cons (pe_glob (v := .ref MC) rfl T.gM rfl) (pa_cons (pe_glob (v := .ref YC) rfl T.gY rfl) pa_nil)))) pa_nil))))), ?_⟩
    refine ⟨_, rfl, line_small (by show 3 ≤ 16777216; decide), fun p hp => ?_⟩
    have sm := same_new (o := .tup [V.ref FC, V.ref MC, V.ref YC]) hp
    exact ⟨_, p, _, .ref FC, [.ref FC, .ref MC, .ref YC], true || (false || false), rfl, upd_same, .cons (.own FC) (.cons (.own MC) (.cons (.own YC) .nil)), (hF.same sm).ty T, kit3 (T.own mF) (T.no mF mM T.ne.1) (T.no mF mY T.ne.2.1), q _ sm⟩
def spHasOwn (FC KC NC : Addr) : Sp := fun vs H Q _ => ∃ r fa : Addr, vs = [.ref r] ∧ H r = some (.lst [.ref fa]) ∧ FldAt FC KC NC H fa ∧ Gives H Q (.bl true)
set_option maxHeartbeats 20000000 in
theorem ok_own_f {f : Addr} {fd : FuncData} (F : FnP K "has_own_field" "has_own_field" s_has_own_field f fd) (T : Town K mg C KC NC FC MC YC OC) (N : Nms mg) : FnOk P w K mg base CX0 1 f fd ["row"] (spHasOwn FC KC NC) := by
  have nd := sc_has_own_field.nd
  refine F.ok sc_has_own_field (fun vs H Q E h => ?_) (fun cdv A outer s H vs Q E hr h => ?_)
  · obtain ⟨r, fa, rfl, hr0, hF, q⟩ := h
    rfl
  · obtain ⟨r, fa, rfl, hr0, hF, q⟩ := h
    refine ⟨_, PSs.nox (pss_one (ps_ret (pe_callB (cr_any rfl) (by rfl) N.any (by decide +kernel) (pa_cons (pe_lc (own := [("item", 1)]) (g := gName 1) (tt := tYes) rfl nd (pi_list (pv 0)) (blkOk_by (N := ["row", "item"]) (sc := defScope s_has_own_field) (by decide +kernel)) (fun _ _ _ _ _ => pg_name (i := 1) nd rfl (Or.inl rfl)) (fun _ _ _ _ _ => pts_nil) (fun _ _ _ _ _ => (pe_callB (r := rIsi K) call_isi (by rfl) N.isi (by decide +kernel) (pa_cons (pv 1) (pa_cons (pe_glob (v := .ref FC) rfl T.gF rfl) pa_nil))))) pa_nil)))), ?_⟩
    refine ⟨_, rfl, r, rfl, ⟨_, SqL.of hr0⟩, fun D hD => ?_⟩
    refine lc_it (n := [V.ref fa].length) (walk_list (K := K) (xs := [V.ref fa])) (fun j H' => H' D = some (.lst (List.take j [V.bl true])) ∧ Same H H') ⟨upd_same, same_new hD⟩ (fun j H' _ h => SqL.of (K := K) (h.2 _ _ hr0)) ?_ ?_
    · rintro j y _ H3 hj ⟨e4, sm⟩ ⟨rfl, hy⟩
      obtain rfl : j = 0 := by
        have : [V.ref fa].length = 1 := rfl
        omega
      obtain rfl : y = .ref fa := (Option.some.inj hy).symm
      have hF3 := hF.same sm
      refine ⟨rfl, yes_keep ?_⟩
      exact ⟨_, rfl, _, _, _, _, true, rfl, .own FC, hF3.ty T, T.own mF, [], e4, small1000 (by decide), upd_same, fun b o z => by
        rw [upd_ne (ne_of_none z hD)]
        exact sm _ _ z⟩
    · rintro H3 ⟨e4, sm⟩
      have e4 : H3 D = some (.lst [V.bl true]) := e4
      exact ⟨D, [true], rfl, SqL.of e4, q H3 sm⟩
def spDepth (FC KC NC : Addr) : Sp := fun vs H Q _ => ∃ r fa : Addr, vs = [.ref r] ∧ H r = some (.lst [.ref fa]) ∧ FldAt FC KC NC H fa ∧ Gives H Q (.int 1)
set_option maxHeartbeats 20000000 in
theorem ok_depth {f : Addr} {fd : FuncData} (F : FnP K "depth_around" "depth_around" s_depth_around f fd) (T : Town K mg C KC NC FC MC YC OC) (N : Nms mg) : FnOk P w K mg base CX0 1 f fd ["parts"] (spDepth FC KC NC) := by
  have nd := sc_depth_around.nd
  refine F.ok sc_depth_around (fun vs H Q E h => ?_) (fun cdv A outer s H vs Q E hr h => ?_)
  · obtain ⟨r, fa, rfl, hr0, hF, q⟩ := h
    rfl
  · obtain ⟨r, fa, rfl, hr0, hF, q⟩ := h
    have hu : (A.deeper (envOfC "depth_around" (defScope s_depth_around) s.heap.objs.size f cdv)).units + 10 < cLine := by have := hr.un; omega
    refine ⟨_, PSs.nox (pss_one (ps_ret (pe_op op_add pe_int (pe_callBK (cr_maxDef rfl hu) (by rfl) N.max (by decide +kernel) (pa_cons (pe_lc (own := [("part", 1)]) (g := gName 1) rfl nd (pi_list (pv 0)) (blkOk_by (N := ["parts", "part"]) (sc := defScope s_depth_around) (by decide +kernel)) (fun _ _ _ _ _ => pg_name (i := 1) nd rfl (Or.inl rfl)) (fun _ _ _ _ _ => pts_one (pt_val (pe_callB (r := rIsi K) call_isi (by rfl) N.isi (by decide +kernel) (pa_cons (pv 1) (pa_cons (pe_glob (v := .ref YC) rfl T.gY rfl) pa_nil))))) (fun _ _ _ _ _ => pe_no)) pa_nil) (pk_cons pe_int pk_nil))))), ?_⟩
    refine ⟨_, rfl, r, rfl, ⟨_, SqL.of hr0⟩, fun D hD => ?_⟩
    refine lc_it (te := fun _ _ _ => False) (n := [V.ref fa].length) (walk_list (K := K) (xs := [V.ref fa])) (fun j H' => H' D = some (.lst []) ∧ Same H H') ⟨upd_same, same_new hD⟩ (fun j H' _ h => SqL.of (h.2 _ _ hr0)) ?_ ?_
    · rintro j y _ H3 hj ⟨e4, sm⟩ ⟨rfl, hy⟩
      obtain rfl : j = 0 := by
        have : [V.ref fa].length = 1 := rfl
        omega
      obtain rfl : y = .ref fa := (Option.some.inj hy).symm
      have hF3 := hF.same sm
      refine ⟨rfl, ?_⟩
      exact ⟨_, rfl, _, _, _, _, false, rfl, .own YC, hF3.ty T, T.no mF mY T.ne.2.1, _, rfl, (if_neg (by simp)).mpr ⟨e4, sm⟩⟩
    · rintro H3 ⟨e4, sm⟩
      exact ⟨D, [], 0, rfl, rfl, SqL.of e4, fun _ => ⟨_, _, rfl, rfl, q H3 sm⟩, fun m h => by cases h⟩
def spIsz (FC KC NC : Addr) : Sp := fun vs H Q _ => ∃ fa : Addr, vs = [.ref fa] ∧ FldAt FC KC NC H fa ∧ Q (.int 1) H
set_option maxHeartbeats 20000000 in
theorem ok_isz {f : Addr} {fd : FuncData} (F : FnP K "item_size" "item_size" s_item_size f fd) (T : Town K mg C KC NC FC MC YC OC) (N : Nms mg) : FnOk P w K mg base CX0 1 f fd ["item"] (spIsz FC KC NC) := by
  refine F.ok sc_item_size (fun vs H Q E h => ?_) (fun cdv A outer s H vs Q E hr h => ?_)
  · obtain ⟨fa, rfl, hF, q⟩ := h
    rfl
  · obtain ⟨fa, rfl, hF, q⟩ := h
    refine ⟨_, PSs.nox (pss_cons (ps_if (pt_val (pe_callB call_isi (by rfl) N.isi (by decide +kernel) (pa_cons (pv 0) (pa_cons (pe_glob (v := .ref FC) rfl T.gF rfl) pa_nil)))) (pss_one (ps_ret (pe_callB call_len_seq (by rfl) N.len PySem.boot_len (pa_cons (pe_fld (pe_fld (pe_fld (pv 0) rfl) rfl) rfl) pa_nil)))) pss_nil) pss_never), ?_⟩
    obtain ⟨dx, k, h1, ⟨dk, t, n, rs, k1, k2, k3, k4, dn, c, fo, d, n1, n2, n3, n4⟩⟩ := id hF
    refine ⟨_, rfl, _, _, _, _, true, rfl, .own FC, hF.ty T, T.own mF, true, rfl, iteT ?_⟩
    rw [netA_chars] at n2
    exact ⟨_, rfl, fa, FC, dx, _, _, rfl, h1, T.clF, T.nF2, (lk_ne (by decide +kernel)).trans lk_hit, k, KC, dk, _, _, rfl, k1, T.kd.cl, T.kd.n2, (lk_ne (by decide +kernel)).trans lk_hit, n, NC, dn, _, _, rfl, n1, T.net.cl, T.net.n1, lk_hit, c, _, rfl, .inl (SqL.of n2), q⟩
def spRsz (FC KC NC : Addr) : Sp := fun vs H Q _ => ∃ r fa : Addr, vs = [.ref r] ∧ H r = some (.lst [.ref fa]) ∧ FldAt FC KC NC H fa ∧ Gives H Q (.int 1)
set_option maxHeartbeats 20000000 in
theorem ok_rsz {f : Addr} {fd : FuncData} (F : FnP K "row_size" "row_size" s_row_size f fd) (N : Nms mg) (C_item_size : Can P w K mg base CX0 "item_size" ["item"] 1 (spIsz FC KC NC)) : FnOk P w K mg base CX0 2 f fd ["row"] (spRsz FC KC NC) := by
  obtain ⟨f_item_size, fd_item_size, G_item_size, g_item_size, k_item_size, b_item_size⟩ := C_item_size
  have nd := sc_row_size.nd
  refine F.ok sc_row_size (fun vs H Q E h => ?_) (fun cdv A outer s H vs Q E hr h => ?_)
  · obtain ⟨r, fa, rfl, hr0, hF, q⟩ := h
    rfl
  · obtain ⟨r, fa, rfl, hr0, hF, q⟩ := h
    refine ⟨_, PSs.nox (pss_one (ps_ret (pe_callB (cr_sum rfl) (by rfl) N.sum (by decide +kernel) (pa_cons (pe_lc (own := [("item", 1)]) (g := gName 1) (tt := tYes) rfl nd (pi_list (pv 0)) (blkOk_by (N := ["row", "item"]) (sc := defScope s_row_size) (by decide +kernel)) (fun _ _ _ _ _ => pg_name (i := 1) nd rfl (Or.inl rfl)) (fun _ _ _ _ _ => pts_nil) (fun _ _ _ _ _ => (pe_call G_item_size hr (by rfl) g_item_size k_item_size b_item_size .nil pass0 (pa_cons (pv 1) pa_nil)))) pa_nil)))), ?_⟩
    refine ⟨_, rfl, r, rfl, ⟨_, SqL.of hr0⟩, fun D hD => ?_⟩
    refine lc_it (n := [V.ref fa].length) (walk_list (K := K) (xs := [V.ref fa])) (fun j H' => H' D = some (.lst (List.take j [V.int 1])) ∧ Same H H') ⟨upd_same, same_new hD⟩ (fun j H' _ h => SqL.of (K := K) (h.2 _ _ hr0)) ?_ ?_
    · rintro j y _ H3 hj ⟨e4, sm⟩ ⟨rfl, hy⟩
      obtain rfl : j = 0 := by
        have : [V.ref fa].length = 1 := rfl
        omega
      obtain rfl : y = .ref fa := (Option.some.inj hy).symm
      have hF3 := hF.same sm
      refine ⟨rfl, yes_keep ?_⟩
      exact ⟨_, rfl, fa, rfl, hF3, [], e4, small1000 (by decide), upd_same, fun b o z => by
        rw [upd_ne (ne_of_none z hD)]
        exact sm _ _ z⟩
    · rintro H3 ⟨e4, sm⟩
      have e4 : H3 D = some (.lst [V.int 1]) := e4
      exact ⟨D, [1], rfl, SqL.of e4, q H3 sm⟩
def spJoined (FC KC NC : Addr) : Sp := fun vs H Q _ => ∃ r fa : Addr, vs = [.ref r] ∧ H r = some (.lst [.ref fa]) ∧ FldAt FC KC NC H fa ∧ ∀ t H', Same H H' → H t = none → H' t = some (.tup [.ref fa]) → Q (.ref t) H'
set_option maxHeartbeats 20000000 in
theorem ok_joined {f : Addr} {fd : FuncData} (F : FnP K "joined" "joined" s_joined f fd) (T : Town K mg C KC NC FC MC YC OC) (N : Nms mg) : FnOk P w K mg base CX0 1 f fd ["row"] (spJoined FC KC NC) := by
  have nd := sc_joined.nd
  refine F.ok sc_joined (fun vs H Q E h => ?_) (fun cdv A outer s H vs Q E hr h => ?_)
  · obtain ⟨r, fa, rfl, hr0, hF, q⟩ := h
    rfl
  · obtain ⟨r, fa, rfl, hr0, hF, q⟩ := h
    refine ⟨_, PSs.nox (pss_cons (ps_set (i := 1) nd rfl (.inl rfl) (pe_lst pa_nil)) (pss_cons (ps_for PassesOwn.never rfl (pi_list (pv 0)) (pg_name (i := 2) nd rfl (.inl rfl))
      (pss_one (ps_if (PW.pt (pw_and (pt_val (pe_callB call_isi (by rfl) N.isi (by decide +kernel) (pa_cons (pv 2) (pa_cons (pe_glob (v := .ref MC) rfl T.gM rfl) pa_nil)))) (pw_and pt_no (pw_and1 pt_no)))) pss_never (pss_one (ps_expr (pe_bm PySem.F.plainAttrs_list PySem.F.slot_list_append PySem.F.type_list_append mt_append (pv 1) (pa_cons (pv 2) pa_nil)))))))
      (pss_one (ps_ret (pe_callTy call_tuple_of (by rfl) N.tuple (by decide +kernel) (pa_cons (pv 1) pa_nil)))))), ?_⟩
    refine ⟨line_small (by show 0 ≤ 16777216; decide), fun L hL => ?_⟩
    have s0 := same_new (o := .lst []) hL
    refine name_go ?_
    dsimp only
    refine ⟨_, rfl, r, rfl, ⟨_, SqL.of (s0 _ _ hr0)⟩, ?_⟩
    refine for_list (K := K) (xs := [.ref fa]) (fun j σ H' => ∃ x2, σ = [some (.ref r), some (.ref L), x2] ∧ H' L = some (.lst (List.take j [V.ref fa])) ∧ Same H H') ⟨none, rfl, upd_same, s0⟩ (fun j σ H' _ h => by
      obtain ⟨_, _, _, sm⟩ := h
      exact SqL.of (sm _ _ hr0)) ?_ ?_
    · rintro j y σ H3 hy ⟨x2, rfl, e4, sm⟩
      obtain ⟨hj, ey⟩ := List.getElem?_eq_some_iff.mp hy
      obtain rfl : j = 0 := by
        have : [V.ref fa].length = 1 := rfl
        omega
      obtain rfl : y = .ref fa := ey.symm
      have hF3 := hF.same sm
      refine name_go ?_
      dsimp only
      refine ⟨_, rfl, _, _, _, _, false, rfl, .own MC, hF3.ty T, T.no mF mM T.ne.1, _, rfl, iteF ?_⟩
      refine ⟨_, rfl, .inl ⟨rfl, _, SqL.of e4⟩, _, rfl, L, _, _, rfl, rfl, e4, small1000 (by show 0 ≤ 1000; decide), ?_⟩
      exact ⟨_, rfl, upd_same, fun b o z => by
        rw [upd_ne (ne_of_none z hL)]
        exact sm _ _ z⟩
    · rintro σ H3 ⟨x2, rfl, e4, sm⟩
      have e4 : H3 L = some (.lst [V.ref fa]) := e4
      refine ⟨_, rfl, L, _, rfl, .inl ⟨SqL.of e4, fun t ht => ?_⟩⟩
      exact q t _ (sm.trans (same_new ht)) (sm.free ht) upd_same
def spFin_lst (FC KC NC : Addr) : Sp := fun vs H Q _ => ∃ r fa : Addr, vs = [.ref r] ∧ H r = some (.lst [.ref fa]) ∧ FldAt FC KC NC H fa ∧ ∀ l H', Same H H' → H l = none → H' l = some (.lst [.ref fa]) → Q (.ref l) H'
set_option maxHeartbeats 20000000 in
theorem ok_fin_lst {f : Addr} {fd : FuncData} (F : FnP K "fields_in" "fields_in" s_fields_in f fd) (T : Town K mg C KC NC FC MC YC OC) (N : Nms mg) : FnOk P w K mg base CX0 1 f fd ["row"] (spFin_lst FC KC NC) := by
  have nd := sc_fields_in.nd
  refine F.ok sc_fields_in (fun vs H Q E h => ?_) (fun cdv A outer s H vs Q E hr h => ?_)
  · obtain ⟨r, fa, rfl, hr0, hF, q⟩ := h
    rfl
  · obtain ⟨r, fa, rfl, hr0, hF, q⟩ := h
    refine ⟨_, PSs.nox (pss_cons (ps_set (i := 1) nd rfl (.inl rfl) (pe_lst pa_nil)) (pss_cons (ps_for PassesOwn.never rfl (pi_list (pv 0)) (pg_name (i := 2) nd rfl (.inl rfl))
      (pss_one (ps_if (pt_val (pe_callB call_isi (by rfl) N.isi (by decide +kernel) (pa_cons (pv 2) (pa_cons (pe_glob (v := .ref FC) rfl T.gF rfl) pa_nil)))) (pss_one (ps_expr (pe_bm PySem.F.plainAttrs_list PySem.F.slot_list_append PySem.F.type_list_append mt_append (pv 1) (pa_cons (pv 2) pa_nil)))) pss_never)))
      (pss_one (ps_ret (pv 1))))), ?_⟩
    refine ⟨line_small (by show 0 ≤ 16777216; decide), fun L hL => ?_⟩
    have s0 := same_new (o := .lst []) hL
    refine name_go ?_
    dsimp only
    refine ⟨_, rfl, r, rfl, ⟨_, SqL.of (s0 _ _ hr0)⟩, ?_⟩
    refine for_list (K := K) (xs := [.ref fa]) (fun j σ H' => ∃ x2, σ = [some (.ref r), some (.ref L), x2] ∧ H' L = some (.lst (List.take j [V.ref fa])) ∧ Same H H') ⟨none, rfl, upd_same, s0⟩ (fun j σ H' _ h => by
      obtain ⟨_, _, _, sm⟩ := h
      exact SqL.of (sm _ _ hr0)) ?_ ?_
    · rintro j y σ H3 hy ⟨x2, rfl, e4, sm⟩
      obtain ⟨hj, ey⟩ := List.getElem?_eq_some_iff.mp hy
      obtain rfl : j = 0 := by
        have : [V.ref fa].length = 1 := rfl
        omega
      obtain rfl : y = .ref fa := ey.symm
      have hF3 := hF.same sm
      refine name_go ?_
      dsimp only
      refine ⟨_, rfl, _, _, _, _, true, rfl, .own FC, hF3.ty T, T.own mF, _, rfl, iteT ?_⟩
      refine ⟨_, rfl, .inl ⟨rfl, _, SqL.of e4⟩, _, rfl, L, _, _, rfl, rfl, e4, small1000 (by show 0 ≤ 1000; decide), ?_⟩
      exact ⟨_, rfl, upd_same, fun b o z => by
        rw [upd_ne (ne_of_none z hL)]
        exact sm _ _ z⟩
    · rintro σ H3 ⟨x2, rfl, e4, sm⟩
      have e4 : H3 L = some (.lst [V.ref fa]) := e4
      exact ⟨_, rfl, q L H3 sm hL e4⟩
def spFin_tup (FC KC NC : Addr) : Sp := fun vs H Q _ => ∃ r fa : Addr, vs = [.ref r] ∧ H r = some (.tup [.ref fa]) ∧ FldAt FC KC NC H fa ∧ ∀ l H', Same H H' → H l = none → H' l = some (.lst [.ref fa]) → Q (.ref l) H'
set_option maxHeartbeats 20000000 in
theorem ok_fin_tup {f : Addr} {fd : FuncData} (F : FnP K "fields_in" "fields_in" s_fields_in f fd) (T : Town K mg C KC NC FC MC YC OC) (N : Nms mg) : FnOk P w K mg base CX0 1 f fd ["row"] (spFin_tup FC KC NC) := by
  have nd := sc_fields_in.nd
  refine F.ok sc_fields_in (fun vs H Q E h => ?_) (fun cdv A outer s H vs Q E hr h => ?_)
  · obtain ⟨r, fa, rfl, hr0, hF, q⟩ := h
    rfl
  · obtain ⟨r, fa, rfl, hr0, hF, q⟩ := h
    refine ⟨_, PSs.nox (pss_cons (ps_set (i := 1) nd rfl (.inl rfl) (pe_lst pa_nil)) (pss_cons (ps_for PassesOwn.never rfl (pi_tup (pv 0)) (pg_name (i := 2) nd rfl (.inl rfl))
      (pss_one (ps_if (pt_val (pe_callB call_isi (by rfl) N.isi (by decide +kernel) (pa_cons (pv 2) (pa_cons (pe_glob (v := .ref FC) rfl T.gF rfl) pa_nil)))) (pss_one (ps_expr (pe_bm PySem.F.plainAttrs_list PySem.F.slot_list_append PySem.F.type_list_append mt_append (pv 1) (pa_cons (pv 2) pa_nil)))) pss_never)))
      (pss_one (ps_ret (pv 1))))), ?_⟩
    refine ⟨line_small (by show 0 ≤ 16777216; decide), fun L hL => ?_⟩
    have s0 := same_new (o := .lst []) hL
    refine name_go ?_
    dsimp only
    refine ⟨_, rfl, r, rfl, ⟨_, SqT.of (s0 _ _ hr0)⟩, ?_⟩
    refine for_tup (K := K) (xs := [.ref fa]) (fun j σ H' => ∃ x2, σ = [some (.ref r), some (.ref L), x2] ∧ H' L = some (.lst (List.take j [V.ref fa])) ∧ Same H H') ⟨none, rfl, upd_same, s0⟩ (fun j σ H' _ h => by
      obtain ⟨_, _, _, sm⟩ := h
      exact SqT.of (sm _ _ hr0)) ?_ ?_
    · rintro j y σ H3 hy ⟨x2, rfl, e4, sm⟩
      obtain ⟨hj, ey⟩ := List.getElem?_eq_some_iff.mp hy
      obtain rfl : j = 0 := by
        have : [V.ref fa].length = 1 := rfl
        omega
      obtain rfl : y = .ref fa := ey.symm
      have hF3 := hF.same sm
      refine name_go ?_
      dsimp only
      refine ⟨_, rfl, _, _, _, _, true, rfl, .own FC, hF3.ty T, T.own mF, _, rfl, iteT ?_⟩
      refine ⟨_, rfl, .inl ⟨rfl, _, SqL.of e4⟩, _, rfl, L, _, _, rfl, rfl, e4, small1000 (by show 0 ≤ 1000; decide), ?_⟩
      exact ⟨_, rfl, upd_same, fun b o z => by
        rw [upd_ne (ne_of_none z hL)]
        exact sm _ _ z⟩
    · rintro σ H3 ⟨x2, rfl, e4, sm⟩
      have e4 : H3 L = some (.lst [V.ref fa]) := e4
      exact ⟨_, rfl, q L H3 sm hL e4⟩
def spYinit (FC KC NC YC : Addr) : Sp := fun vs H Q _ => ∃ p dx r fa : Addr, vs = [.ref p, .ref r] ∧ H p = some (.ins YC dx []) ∧ H r = some (.lst [.ref fa]) ∧ FldAt FC KC NC H fa ∧ ∀ fs H', But p H H' → H' p = some (.ins YC dx fs) → Q .non H'
set_option maxHeartbeats 20000000 in
theorem ok_y_init {f : Addr} {fd : FuncData} (F : FnP K "__init__" "Maybe.__init__" s_Maybe_init_ f fd) (T : Town K mg C KC NC FC MC YC OC) (N : Nms mg) (C_is_row : Can P w K mg base CX0 "is_row" ["thing"] 1 (spRowL K)) (C_is_item : Can P w K mg base CX0 "is_item" ["thing"] 1 (spItem FC KC NC)) (C_has_own_field : Can P w K mg base CX0 "has_own_field" ["row"] 1 (spHasOwn FC KC NC)) (C_depth_around : Can P w K mg base CX0 "depth_around" ["parts"] 1 (spDepth FC KC NC)) (C_row_size : Can P w K mg base CX0 "row_size" ["row"] 2 (spRsz FC KC NC)) (C_joined : Can P w K mg base CX0 "joined" ["row"] 1 (spJoined FC KC NC)) : FnOk P w K mg base CX0 3 f fd ["self", "parts"] (spYinit FC KC NC YC) := by
  obtain ⟨f_is_row, fd_is_row, G_is_row, g_is_row, k_is_row, b_is_row⟩ := C_is_row
  obtain ⟨f_is_item, fd_is_item, G_is_item, g_is_item, k_is_item, b_is_item⟩ := C_is_item
  obtain ⟨f_has_own_field, fd_has_own_field, G_has_own_field, g_has_own_field, k_has_own_field, b_has_own_field⟩ := C_has_own_field
  obtain ⟨f_depth_around, fd_depth_around, G_depth_around, g_depth_around, k_depth_around, b_depth_around⟩ := C_depth_around
  obtain ⟨f_row_size, fd_row_size, G_row_size, g_row_size, k_row_size, b_row_size⟩ := C_row_size
  obtain ⟨f_joined, fd_joined, G_joined, g_joined, k_joined, b_joined⟩ := C_joined
  obtain ⟨tD, gD⟩ := T.deep
  obtain ⟨tS, gS⟩ := T.size
  have nd := sc_Maybe_init_.nd
  refine F.ok sc_Maybe_init_ (fun vs H Q E h => ?_) (fun cdv A outer s H vs Q E hr h => ?_)
  · obtain ⟨p, dx, r, fa, rfl, hp, hr0, hF, q⟩ := h
    rfl
  · obtain ⟨p, dx, r, fa, rfl, hp, hr0, hF, q⟩ := h
    refine ⟨_, PSs.nox (pss_cons (ps_if (PW.pt (pw_or (pt_not (pt_val (pe_call G_is_row (hr.mono (by decide)) (by rfl) g_is_row k_is_row b_is_row .nil pass0 (pa_cons (pv 1) pa_nil)))) (pw_or1 (pt_cmpR op_eq (pe_callB call_len_seq (by rfl) N.len PySem.boot_len (pa_cons (pv 1) pa_nil)) pe_int (nomark _))))) pss_never pss_nil)
      (pss_cons (ps_for PassesOwn.never rfl (pi_enum (by rfl) N.enumerate (pa_cons (pv 1) pa_nil)) (pg_tup rfl (pgs_cons (pg_name (i := 2) nd rfl (.inl rfl) (.inr rfl)) (pgs_cons (pg_name (i := 3) nd rfl (.inl rfl) (.inr rfl)) pgs_nil)))
        (pss_one (ps_if (pt_not (pt_val (pe_call G_is_item (hr.mono (by decide)) (by rfl) g_is_item k_is_item b_is_item .nil pass0 (pa_cons (pv 3) pa_nil)))) pss_never pss_nil)))
      (pss_cons (ps_if (PW.pt (pw_or (pt_not (pt_val (pe_call G_has_own_field (hr.mono (by decide)) (by rfl) g_has_own_field k_has_own_field b_has_own_field .nil pass0 (pa_cons (pv 1) pa_nil)))) (pw_or (pt_cmpR op_gt (pe_call G_depth_around (hr.mono (by decide)) (by rfl) g_depth_around k_depth_around b_depth_around .nil pass0 (pa_cons (pv 1) pa_nil)) (pe_glob (v := .int 3) (by rfl) gD ⟨_, rfl⟩) (nomark _)) (pw_or1 (pt_cmpR op_gt (pe_call G_row_size hr (by rfl) g_row_size k_row_size b_row_size .nil pass0 (pa_cons (pv 1) pa_nil)) (pe_glob (v := .int 200) (by rfl) gS ⟨_, rfl⟩) (nomark _)))))) pss_never pss_nil)
      (pss_one (ps_fld (pv 0) (pe_call G_joined (hr.mono (by decide)) (by rfl) g_joined k_joined b_joined .nil pass0 (pa_cons (pv 1) pa_nil)) rfl))))), ?_⟩
    refine ⟨_, rfl, r, _, rfl, hr0, fun H1 s1 => ⟨_, rfl, iteF ?_⟩⟩
    refine ⟨_, rfl, r, _, rfl, .inl (SqL.of (s1 _ _ hr0)), rfl, false, rfl, iteF ?_⟩
    refine ⟨_, rfl, r, _, rfl, SqL.of (s1 _ _ hr0), ?_⟩
    refine for_it (n := [V.ref fa].length) (walk_enum (K := K) (xs := [V.ref fa])) (fun i σ H' => ∃ x2 x3 : Option V, σ = [some (.ref p), some (.ref r), x2, x3] ∧ Same H H') ⟨none, none, rfl, s1⟩ (fun i σ H' _ h => by
      obtain ⟨_, _, _, sm⟩ := h
      exact SqL.of (K := K) (sm _ _ hr0)) ?_ ?_
    · rintro i x σ H2 H3 hi ⟨x2, x3, rfl, sm⟩ ⟨T3, y, z, rfl, hT, rfl, hy, hz⟩
      obtain rfl : i = 0 := by
        have : [V.ref fa].length = 1 := rfl
        omega
      obtain rfl : z = .ref fa := (Option.some.inj hz).symm
      obtain rfl : y = .int (0 : Nat) := (Option.some.inj hy).symm
      have sT := same_new (o := .tup [.int (0 : Nat), .ref fa]) hT
      have s2 := sm.trans sT
      refine ⟨T3, _, rfl, SqT.of upd_same, rfl, _, _, rfl, _, _, rfl, rfl, ?_⟩
      refine ⟨_, rfl, fa, rfl, hF.same s2, fun H4 s4 => ⟨_, rfl, iteF ?_⟩⟩
      exact ⟨_, _, rfl, s2.trans s4⟩
    · rintro σ H2 ⟨x2, x3, rfl, sm⟩
      have hF2 := hF.same sm
      refine ⟨_, rfl, r, fa, rfl, sm _ _ hr0, hF2, fun H3 s3 => ⟨_, rfl, iteF ?_⟩⟩
      refine ⟨_, rfl, r, fa, rfl, s3 _ _ (sm _ _ hr0), hF2.same s3, fun H4 s4 => ⟨_, _, rfl, rfl, false, rfl, iteF ?_⟩⟩
      have s34 := (sm.trans s3).trans s4
      refine ⟨_, rfl, r, fa, rfl, s34 _ _ hr0, hF.same s34, fun H5 s5 => ⟨_, _, rfl, rfl, false, rfl, iteF ?_⟩⟩
      have s5' := s34.trans s5
      refine ⟨_, rfl, r, fa, rfl, s5' _ _ hr0, hF.same s5', fun t H6 s6 nt ht => ?_⟩
      have s6' := s5'.trans s6
      refine ⟨_, rfl, p, YC, dx, _, rfl, s6' _ _ hp, T.clY, T.nY, (by show 0 < 1000; decide), ?_⟩
      refine q _ _ (fun x o e nx => ?_) upd_same
      rw [upd_ne nx]
      exact s6' _ _ e
end
end K02

set_option autoImplicit false
set_option maxErrors 4
/-! for i, x in enumerate(t), t a tuple. -/
namespace PySem
theorem meets_enumerate_newT {v : Value} {o : Obj} {H : Heap → Prop} (B : Begins v o H) :
    Meets (Builtin.«enumerate.__new__» ⟨[.type "enumerate", v], []⟩) (fun _ R s => H s.heap ∧
      R (.ok (.ret (.ref (s.heap.push o).objs.size))) { s with heap := (s.heap.push o).push { cls := .type "enumerate", data := .fields #[.none, .bool false, .ref s.heap.objs.size, rawInt 0, .none, .none] } }) :=
  .of_wp fun prog w A R s h => by
    obtain ⟨hp, g, d, tk, os⟩ := s; obtain ⟨h1, h⟩ := h
    have hsub := sub_enumerate
    have q1 : ∀ {A' : Around} {E : Value → Shared → Prop} {Q : Value → Shared → Prop}, Q (.ref hp.objs.size) ⟨hp.push o, g, d, tk, os⟩ → wpAny (model prog w) A' (pyIter v) Q E ⟨hp, g, d, tk, os⟩ :=
      fun q => B.iter prog w _ _ ⟨hp, g, d, tk, os⟩ _ h1 q
    wp_walk using q1
    refine wpAny_stack_any fun st => wpAny_pure ?_
    split
    · rename_i c _ _ _ _ _
      cases (c == Value.type "enumerate")
      · wp_walk using q1
        exact ⟨_, rfl, h⟩
      · wp_walk using q1
        exact ⟨_, rfl, h⟩
    · wp_walk using q1
      exact ⟨_, rfl, h⟩
theorem enum_tuple {prog : Program} {w : World} {A : Around} {E : Value → Shared → Prop} {s : Shared} {v : Value} {o : Obj} {H : Heap → Prop} {Q : Value → Shared → Prop} (B : Begins v o H) (h1 : H s.heap)
    (h : ∀ h', IsEnum h' (s.heap.objs.size + 1) s.heap.objs.size 0 .none → h'.get? s.heap.objs.size = some o → h'.objs.size = s.heap.objs.size + 2 →
      (∀ b o, s.heap.get? b = some o → h'.get? b = some o) → Q (.ref (s.heap.objs.size + 1)) { s with heap := h' }) :
    wpAny (model prog w) A (call (.type "enumerate") [v]) Q E s := by
  refine callType_new F.called_enumerate (by decide) (F.typeCall_enumerate_1 _) (F.newCall_enumerate_1 _) (fun obj => F.args_object_init_2 obj _) F.entry_enumerate_new
    (meets_enumerate_newT B) ⟨h1, ?_⟩
  have hz : (s.heap.push o).objs.size = s.heap.objs.size + 1 := Heap.size_push ..
  show _ ∧ _
  rw [hz]
  have he : IsEnum ((s.heap.push o).push { cls := .type "enumerate", data := .fields #[.none, .bool false, .ref s.heap.objs.size, rawInt 0, .none, .none] }) (s.heap.objs.size + 1) s.heap.objs.size 0 .none := by
    have := Heap.get?_push_size (s.heap.push o) (o := { cls := .type "enumerate", data := .fields #[.none, .bool false, .ref s.heap.objs.size, rawInt 0, .none, .none] }) rfl
    rw [hz] at this; exact this
  refine ⟨⟨_, he, rfl⟩, h _ he (Heap.get?_push_of_some _ (Heap.get?_push_size _ B.free)) (by rw [Heap.size_push, hz]) fun b o x => Heap.get?_push_of_some _ (Heap.get?_push_of_some _ x)⟩
end PySem
namespace Tl
open PySem PySem.Spec PyProof.Rows L2
/-- the tuple at a, each item in a new pair -/
def IteT (K : PySem.W.Frag) (a : Addr) : It :=
  ⟨fun i H => ∃ (xs : List V) (x : V), SqT K H a xs ∧ xs[i]? = some x, fun i H v H' => ∃ T x, v = .ref T ∧ H T = none ∧ H' = upd H T (.tup [.int (i : Nat), x]) ∧ ∀ xs, SqT K H a xs → xs[i]? = some x, fun i H => ∃ xs : List V, SqT K H a xs ∧ xs.length ≤ i⟩
theorem turn_enumT {P : Program} {w : World} {K : PySem.W.Frag} {elts : List Expr} {kk : Nat} {tpos : Pos} (a e it : Addr) :
    Turn P w K (.Tuple elts kk tpos) (IteT K a) [e, it] e (fun i h => (∃ old, IsEnum h e it ((i : Nat) : Int) old) ∧ h.IsTupleIter it a i ∧ e ≠ it ∧ a ≠ it ∧ e ≠ a) where
  mem := by simp
  obj := fun i h st b hb => by
    obtain ⟨⟨old, he⟩, ⟨o, ho, hc, hd⟩, _⟩ := st
    have e' : b = e ∨ b = it := by simpa using hb
    rcases e' with z | z
    · rw [z]; exact ⟨_, he, fun v q => nomatch q⟩
    · rw [z]; exact ⟨o, ho, fun v q => by rw [hd] at q; cases q⟩
  keep := fun i h h' st k => let ⟨⟨old, he⟩, hi, hne⟩ := st; ⟨⟨old, k e (by simp) _ he⟩, hi.at fun o q => k it (by simp) o q, hne⟩
  item := by
    intro X hP hw hK hc i pins s σ H E I hf st hg
    subst hP hw hK
    obtain ⟨⟨old, he⟩, hit, hne, hai, hea⟩ := st
    obtain ⟨xs, x, hq, hx⟩ := hg
    obtain ⟨its, rv, p, hz⟩ := I.tuple hq
    obtain ⟨u, hu, ru⟩ := rv.get hx
    have hel : e < s.heap.objs.size := Heap.lt_size he
    have hil : it < s.heap.objs.size := by obtain ⟨_, q, _⟩ := hit; exact Heap.lt_size q
    have hlt : i < its.toArray.size := by
      have := (List.getElem?_eq_some_iff.mp hu).1
      simpa using this
    have pT : s.heap.IsTuple a its.toArray := p
    refine wpAny_pyNext_enum_itemD (Draws.tuple (A := X.A.in1) (show X.A.in1.handled = none from I.ok.hd hc) it a hai its.toArray) he ⟨hit, pT⟩ hlt hne (by simp only [List.mem_cons, List.not_mem_nil, or_false, not_or]; exact ⟨hne, hea⟩) fun u' h' tk hP' ho hst' hT hsz hk => ?_
    have eu : u' = u := by
      have : its[i]? = some u' := by simpa using hP'
      rw [hu] at this
      exact (Option.some.inj this).symm
    subst eu
    refine ⟨_, rfl, wpAny_letOwnedTupleGo_enum (s := { s with heap := h', toks := tk + 1 }) ho fun h'' he' sb => ?_⟩
    have hT2 : h''.get? s.heap.objs.size = some { cls := .type "tuple", data := .seq #[.int i tk, u'] } := (sb.2 _ (Nat.ne_of_gt hel)).trans hT
    have new : ObjOk X.prog X.w (upd H s.heap.objs.size (.tup [.int (i : Nat), x])) h'' s.heap.objs.size (.tup [.int (i : Nat), x]) :=
      ⟨by show 2 ≤ sizeLine; decide, [.int i tk, u'], .cons ⟨_, rfl⟩ (.cons ru .nil), ⟨_, hT2, rfl, _, rfl⟩⟩
    have I1 : Inv X pins σ (upd H s.heap.objs.size (.tup [.int (i : Nat), x])) { s with heap := h'', toks := tk + 1 } :=
      I.turnedNew (ch := [e, it]) (fun b ob hb q => (sb.2 b (fun z => hb (by simp [z]))).trans (hk b ob (fun z => hb (by simp [z])) (fun z => hb (by simp [z])) q)) hf (Nat.le_refl _) new
    refine ⟨.ref s.heap.objs.size, _, I1, rfl, ⟨_, x, rfl, I.hok.fresh (Nat.le_refl _), rfl, fun ys hy => ?_⟩, ⟨⟨u', ?_⟩, hst'.1.at fun o q => (sb.2 it (Ne.symm hne)).trans q, hne, hai, hea⟩, fun b hb => ?_⟩
    · have e3 : ys = xs := I.tuple_inj hy hq
      rw [e3]
      exact hx
    · have e1 : ((i + 1 : Nat) : Int) = (i : Int) + 1 := by omega
      rw [e1]; exact he'
    · have hb' : b < s.heap.objs.size := by
        have e' : b = e ∨ b = it := by simpa using hb
        rcases e' with z | z
        · rw [z]; exact hel
        · rw [z]; exact hil
      rw [upd_ne (Nat.ne_of_lt hb')]
      exact (hf b hb).1
  done := by
    intro X hP hw hK hc i pins s σ H E I hf st hg
    subst hP hw hK
    obtain ⟨⟨old, he⟩, hit, hne, hai, hea⟩ := st
    obtain ⟨xs, hq, hx⟩ := hg
    obtain ⟨its, rv, p, hz⟩ := I.tuple hq
    obtain ⟨f0, f1, f2, f3, f4, f5⟩ := hf it (by simp)
    have hl := rv.length
    have pT : s.heap.IsTuple a its.toArray := p
    have hT : s.TypeIs (.ref e) "enumerate" := ⟨_, he, rfl⟩
    unfold pyNext
    refine wpAny_bind (wpAny_attempt (wpAny_callSpecial?_slot (name := Str.ofString "__next__") hT F.slot_enumerate_next
      (wpAny_call_entry F.slot_enumerate_next hT F.entry_enumerate_next ?_ (F.args_enumerate_next_1 _))))
    show wpAny _ _ (field (.ref e) 2 >>= _) _ _ _
    refine wpAny_bind (wpAny_field he rfl (x := .ref it) rfl ?_)
    refine wpAny_bind (wpAny_nextOf_tuple_end (I.ok.hd hc) hit pT (by simp; omega) fun h' x he' hx' => ?_)
    obtain ⟨o, ho, hcc⟩ := hx'
    refine wpAny_bind (wpAny_isInstance (T := "StopIteration") (b := true) ⟨o, ho, hcc⟩ isSubtype_stop ?_)
    exact wpAny_pure ⟨rfl, I.turned (t' := s.toks) (fun b o hb q => he' b o hb q) f0 f1 f3 f4 f5⟩
  self := fun A i s Q E st h => let ⟨⟨_, he⟩, _⟩ := st; wpAny_pyIter_enum he h
def iEnumT (K : PySem.W.Frag) (ta : TA) : TI := fun σ H R => ta σ H fun vs H1 => ∃ a xs, vs = [.ref a] ∧ SqT K H1 a xs ∧ R (IteT K a) H1
theorem pi_enumT {X : Cx} {e : Expr} {ta : TA} {p pos tpos : Pos} {elts : List Expr} {kk : Nat} (hg : Gl X "enumerate") (hm : X.mg "enumerate" = none) (ha : PA X [e] ta) (hs : starEach [e] X.env = [(false, eval e X.env)] := by rfl) :
    PI X (.Tuple elts kk tpos) (.Call (.Name "enumerate" p) [e] [] pos) (iEnumT X.K ta) := by
  refine ⟨fun pins s σ H R I h => ?_⟩
  refine Call_ (ld_blt I hg hm boot_enumerate (PyProof.Rows.callWith_type1 (thn (ha.run pos pins s σ H _ I h) fun us s1 ⟨vs, H1, I1, r1, q1⟩ => ?_) hs rfl))
  obtain ⟨a, xs, ex, hq, q⟩ := q1
  subst ex
  cases r1 with
  | cons r rr =>
    cases rr
    cases r
    obtain ⟨its, rv, p', hz⟩ := I1.tuple hq
    have pT : s1.heap.IsTuple a its.toArray := p'
    have hal : a < s1.heap.objs.size := by obtain ⟨_, g, _⟩ := pT; exact Heap.lt_size g
    refine enum_tuple (begins_tuple a its.toArray) pT fun h' he hit hsz hk => wpAny_pyIter_enum he ?_
    have I2 : Inv X pins σ H1 { s1 with heap := h' } := I1.kept (t' := s1.toks) hk
    refine ⟨s1.heap.objs.size + 1, [s1.heap.objs.size + 1, s1.heap.objs.size], _, _, H1, rfl, I2, turn_enumT a (s1.heap.objs.size + 1) s1.heap.objs.size, ⟨⟨.none, he⟩, ⟨_, hit, rfl, rfl⟩, Nat.succ_ne_self _, Nat.ne_of_lt hal, Ne.symm (Nat.ne_of_lt (Nat.lt_succ_of_lt hal))⟩, fun b hb => ?_, q⟩
    have e' : b = s1.heap.objs.size + 1 ∨ b = s1.heap.objs.size := by simpa using hb
    have hle : s1.heap.objs.size ≤ b := by
      rcases e' with z | z
      · rw [z]; exact Nat.le_add_right _ _
      · rw [z]; exact Nat.le_refl _
    exact I1.fpOk hle (I1.hok.fresh hle)
theorem walk_enumT {K : PySem.W.Frag} {a : Addr} {xs : List V} : Walk (IteT K a) xs.length (fun H => SqT K H a xs) (YPair (fun i => some (V.int (i : Nat))) fun i => xs[i]?) where
  goes := fun i H hi q => ⟨xs, xs[i], q, List.getElem?_eq_getElem hi⟩
  stops := fun H q => ⟨xs, q, Nat.le_refl _⟩
  yields := fun i H x H' hi q y => by
    obtain ⟨T, z, e1, e2, e3, e4⟩ := y
    exact ⟨T, .int (i : Nat), z, e1, e2, e3, rfl, e4 xs q⟩
end Tl

set_option autoImplicit false
set_option maxErrors 4
namespace K02
open PySem PySem.Spec PyProof.Rows L2 Tl
/-! ### forms: one line of one field -/
section
variable {P : Program} {w : World} {K : PySem.W.Frag} {mg : Str → Option Value} {base : Heap} {C KC NC FC MC YC OC : Addr}
def spIir (FC KC NC : Addr) : Sp := fun vs H Q _ => ∃ r fa : Addr, vs = [.ref r] ∧ H r = some (.lst [.ref fa]) ∧ FldAt FC KC NC H fa ∧ Gives H Q (.bl true)
set_option maxHeartbeats 20000000 in
theorem ok_iir {f : Addr} {fd : FuncData} (F : FnP K "is_item_row" "is_item_row" s_is_item_row f fd) (N : Nms mg) (C_is_row : Can P w K mg base CX0 "is_row" ["thing"] 1 (spRowL K)) (C_is_item : Can P w K mg base CX0 "is_item" ["thing"] 1 (spItem FC KC NC)) : FnOk P w K mg base CX0 2 f fd ["thing"] (spIir FC KC NC) := by
  obtain ⟨f_is_row, fd_is_row, G_is_row, g_is_row, k_is_row, b_is_row⟩ := C_is_row
  obtain ⟨f_is_item, fd_is_item, G_is_item, g_is_item, k_is_item, b_is_item⟩ := C_is_item
  have nd := sc_is_item_row.nd
  refine F.ok sc_is_item_row (fun vs H Q E h => ?_) (fun cdv A outer s H vs Q E hr h => ?_)
  · obtain ⟨r, fa, rfl, hr0, hF, q⟩ := h
    rfl
  · obtain ⟨r, fa, rfl, hr0, hF, q⟩ := h
    refine ⟨_, PSs.nox (pss_one (ps_ret (pe_and (pe_call G_is_row hr (by rfl) g_is_row k_is_row b_is_row .nil pass0 (pa_cons (pv 0) pa_nil)) (pe_and (pe_cmpR op_gt (pe_callB call_len_seq (by rfl) N.len PySem.boot_len (pa_cons (pv 0) pa_nil)) pe_int (nomark _)) (pe_one (pe_callB (cr_all rfl) (by rfl) N.all (by decide +kernel) (pa_cons (pe_lc (own := [("item", 1)]) (g := gName 1) (tt := tYes) rfl nd (pi_list (pv 0)) (blkOk_by (N := ["thing", "item"]) (sc := defScope s_is_item_row) (by decide +kernel)) (fun _ _ _ _ _ => pg_name (i := 1) nd rfl (Or.inl rfl)) (fun _ _ _ _ _ => pts_nil) (fun _ _ _ _ _ => (pe_call G_is_item hr (by rfl) g_is_item k_is_item b_is_item .nil pass0 (pa_cons (pv 1) pa_nil)))) pa_nil))))))), ?_⟩
    refine ⟨_, rfl, r, _, rfl, hr0, fun H1 s1 => ⟨true, rfl, iteT ?_⟩⟩
    refine ⟨_, rfl, r, _, rfl, .inl (SqL.of (s1 _ _ hr0)), _, _, rfl, rfl, true, rfl, iteT ?_⟩
    refine ⟨_, rfl, r, rfl, ⟨_, SqL.of (s1 _ _ hr0)⟩, fun D hD => ?_⟩
    refine lc_it (n := [V.ref fa].length) (walk_list (K := K) (xs := [V.ref fa])) (fun j H' => H' D = some (.lst (List.take j [V.bl true])) ∧ Same H1 H') ⟨upd_same, same_new hD⟩ (fun j H' _ h => SqL.of (K := K) (h.2 _ _ (s1 _ _ hr0))) ?_ ?_
    · rintro j y _ H3 hj ⟨e4, sm⟩ ⟨rfl, hy⟩
      obtain rfl : j = 0 := by
        have : [V.ref fa].length = 1 := rfl
        omega
      obtain rfl : y = .ref fa := (Option.some.inj hy).symm
      refine ⟨rfl, yes_keep ?_⟩
      refine ⟨_, rfl, fa, rfl, hF.same (s1.trans sm), fun H4 s4 => ⟨[], s4 _ _ e4, small1000 (by show 0 ≤ 1000; decide), upd_same, fun b o z => ?_⟩⟩
      rw [upd_ne (ne_of_none z hD)]
      exact s4 _ _ (sm _ _ z)
    · rintro H3 ⟨e4, sm⟩
      have e4 : H3 D = some (.lst [V.bl true]) := e4
      exact ⟨D, [true], rfl, SqL.of e4, q H3 (s1.trans sm)⟩
def spLsz (FC KC NC : Addr) : Sp := fun vs H Q _ => ∃ R r fa : Addr, vs = [.ref R] ∧ H R = some (.lst [.ref r]) ∧ H r = some (.lst [.ref fa]) ∧ FldAt FC KC NC H fa ∧ Gives H Q (.int 1)
set_option maxHeartbeats 20000000 in
theorem ok_lsz {f : Addr} {fd : FuncData} (F : FnP K "lines_size" "lines_size" s_lines_size f fd) (N : Nms mg) (C_row_size : Can P w K mg base CX0 "row_size" ["row"] 2 (spRsz FC KC NC)) : FnOk P w K mg base CX0 3 f fd ["lines"] (spLsz FC KC NC) := by
  obtain ⟨f_row_size, fd_row_size, G_row_size, g_row_size, k_row_size, b_row_size⟩ := C_row_size
  have nd := sc_lines_size.nd
  refine F.ok sc_lines_size (fun vs H Q E h => ?_) (fun cdv A outer s H vs Q E hr h => ?_)
  · obtain ⟨R, r, fa, rfl, hR, hr0, hF, q⟩ := h
    rfl
  · obtain ⟨R, r, fa, rfl, hR, hr0, hF, q⟩ := h
    refine ⟨_, PSs.nox (pss_one (ps_ret (pe_op op_add (pe_op op_sub (pe_callB call_len_seq (by rfl) N.len PySem.boot_len (pa_cons (pv 0) pa_nil)) pe_int) (pe_callB (cr_sum rfl) (by rfl) N.sum (by decide +kernel) (pa_cons (pe_lc (own := [("line", 1)]) (g := gName 1) (tt := tYes) rfl nd (pi_list (pv 0)) (blkOk_by (N := ["lines", "line"]) (sc := defScope s_lines_size) (by decide +kernel)) (fun _ _ _ _ _ => pg_name (i := 1) nd rfl (Or.inl rfl)) (fun _ _ _ _ _ => pts_nil) (fun _ _ _ _ _ => (pe_call G_row_size hr (by rfl) g_row_size k_row_size b_row_size .nil pass0 (pa_cons (pv 1) pa_nil)))) pa_nil))))), ?_⟩
    refine ⟨_, rfl, R, _, rfl, .inl (SqL.of hR), _, _, rfl, rfl, ?_⟩
    refine ⟨_, rfl, R, rfl, ⟨_, SqL.of hR⟩, fun D hD => ?_⟩
    refine lc_it (n := [V.ref r].length) (walk_list (K := K) (xs := [V.ref r])) (fun j H' => H' D = some (.lst (List.take j [V.int 1])) ∧ Same H H') ⟨upd_same, same_new hD⟩ (fun j H' _ h => SqL.of (K := K) (h.2 _ _ hR)) ?_ ?_
    · rintro j y _ H3 hj ⟨e4, sm⟩ ⟨rfl, hy⟩
      obtain rfl : j = 0 := by
        have : [V.ref r].length = 1 := rfl
        omega
      obtain rfl : y = .ref r := (Option.some.inj hy).symm
      refine ⟨rfl, yes_keep ?_⟩
      refine ⟨_, rfl, r, fa, rfl, sm _ _ hr0, hF.same sm, fun H4 s4 => ⟨[], s4 _ _ e4, small1000 (by show 0 ≤ 1000; decide), upd_same, fun b o z => ?_⟩⟩
      rw [upd_ne (ne_of_none z hD)]
      exact s4 _ _ (sm _ _ z)
    · rintro H3 ⟨e4, sm⟩
      have e4 : H3 D = some (.lst [V.int 1]) := e4
      exact ⟨D, [1], rfl, SqL.of e4, _, _, rfl, rfl, q H3 sm⟩
def spCheck (FC KC NC : Addr) : Sp := fun vs H Q _ => ∃ R r fa : Addr, vs = [.ref R] ∧ H R = some (.lst [.ref r]) ∧ H r = some (.lst [.ref fa]) ∧ FldAt FC KC NC H fa ∧ Gives H Q .non
set_option maxHeartbeats 20000000 in
theorem ok_check {f : Addr} {fd : FuncData} (F : FnP K "check_lines" "check_lines" s_check_lines f fd) (T : Town K mg C KC NC FC MC YC OC) (N : Nms mg) (C_is_row : Can P w K mg base CX0 "is_row" ["thing"] 1 (spRowL K)) (C_is_item_row : Can P w K mg base CX0 "is_item_row" ["thing"] 2 (spIir FC KC NC)) (C_fields_in : Can P w K mg base CX0 "fields_in" ["row"] 1 (spFin_lst FC KC NC)) (C_lines_size : Can P w K mg base CX0 "lines_size" ["lines"] 3 (spLsz FC KC NC)) : FnOk P w K mg base CX0 4 f fd ["lines"] (spCheck FC KC NC) := by
  obtain ⟨f_is_row, fd_is_row, G_is_row, g_is_row, k_is_row, b_is_row⟩ := C_is_row
  obtain ⟨f_is_item_row, fd_is_item_row, G_is_item_row, g_is_item_row, k_is_item_row, b_is_item_row⟩ := C_is_item_row
  obtain ⟨f_fields_in, fd_fields_in, G_fields_in, g_fields_in, k_fields_in, b_fields_in⟩ := C_fields_in
  obtain ⟨f_lines_size, fd_lines_size, G_lines_size, g_lines_size, k_lines_size, b_lines_size⟩ := C_lines_size
  obtain ⟨tL, gL⟩ := T.lines
  obtain ⟨tF, gF⟩ := T.fields
  obtain ⟨tS, gS⟩ := T.size
  have nd := sc_check_lines.nd
  refine F.ok sc_check_lines (fun vs H Q E h => ?_) (fun cdv A outer s H vs Q E hr h => ?_)
  · obtain ⟨R, r, fa, rfl, hR, hr0, hF, q⟩ := h
    rfl
  · obtain ⟨R, r, fa, rfl, hR, hr0, hF, q⟩ := h
    have hu : (A.deeper (envOfC "check_lines" (defScope s_check_lines) s.heap.objs.size f cdv)).units + 1 < cLine := by have := hr.un; omega
    refine ⟨_, PSs.nox (pss_cons (ps_if (PW.pt (pw_or (pt_not (pt_val (pe_call G_is_row (hr.mono (by decide)) (by rfl) g_is_row k_is_row b_is_row .nil pass0 (pa_cons (pv 0) pa_nil)))) (pw_or1 (pt_not (pt_chain op_le op_le pe_int (pe_callB call_len_seq (by rfl) N.len PySem.boot_len (pa_cons (pv 0) pa_nil)) (pe_glob (v := .int 10) (by rfl) gL ⟨_, rfl⟩)))))) pss_never pss_nil)
      (pss_cons (ps_set (i := 1) nd rfl (.inl rfl) pe_dnewK)
      (pss_cons (ps_for PassesOwn.never rfl (pi_enum (by rfl) N.enumerate (pa_cons (pv 0) pa_nil)) (pg_tup rfl (pgs_cons (pg_name (i := 2) nd rfl (.inl rfl) (.inr rfl)) (pgs_cons (pg_name (i := 3) nd rfl (.inl rfl) (.inr rfl)) pgs_nil)))
        (pss_cons (ps_if (pt_not (pt_val (pe_call G_is_item_row (hr.mono (by decide)) (by rfl) g_is_item_row k_is_item_row b_is_item_row .nil pass0 (pa_cons (pv 3) pa_nil)))) pss_never pss_nil)
        (pss_one (ps_for PassesOwn.never rfl (pi_list (pe_call G_fields_in (hr.mono (by decide)) (by rfl) g_fields_in k_fields_in b_fields_in .nil pass0 (pa_cons (pv 3) pa_nil))) (pg_name (i := 4) nd rfl (.inl rfl))
          (pss_cons (ps_if (pt_cmp (pc_din hu (pe_fld (pv 4) rfl) (pv 1))) pss_never pss_nil)
          (pss_one (ps_dput hu (pv 1) (pe_fld (pv 4) rfl) pe_bl rfl)))))))
      (pss_one (ps_if (PW.pt (pw_or (pt_cmpR op_gt (pe_callB call_lenD (by rfl) N.len PySem.boot_len (pa_cons (pv 1) pa_nil)) (pe_glob (v := .int 12) (by rfl) gF ⟨_, rfl⟩) (nomark _)) (pw_or1 (pt_cmpR op_gt (pe_call G_lines_size hr (by rfl) g_lines_size k_lines_size b_lines_size .nil pass0 (pa_cons (pv 0) pa_nil)) (pe_glob (v := .int 200) (by rfl) gS ⟨_, rfl⟩) (nomark _))))) pss_never pss_nil))))), ?_⟩
    refine ⟨_, rfl, R, _, rfl, hR, fun H1 s1 => ⟨_, rfl, iteF ?_⟩⟩
    refine ⟨_, rfl, R, _, rfl, .inl (SqL.of (s1 _ _ hR)), _, _, rfl, rfl, true, rfl, iteT ?_⟩
    refine ⟨_, _, rfl, rfl, true, rfl, iteF ?_⟩
    intro d hd
    have sd := same_new (o := .dK []) hd
    refine name_go ?_
    dsimp only
    have s1d := s1.trans sd
    refine ⟨_, rfl, R, _, rfl, SqL.of (s1d _ _ hR), ?_⟩
    refine for_it (n := [V.ref r].length) (walk_enum (K := K) (xs := [V.ref r])) (fun i σ H' => ∃ (x2 x3 x4 : Option V) (kvs : List (Key × V)), σ = [some (.ref R), some (.ref d), x2, x3, x4] ∧ H' d = some (.dK kvs) ∧ kvs.length ≤ i ∧ Same H1 H') ⟨none, none, none, [], rfl, upd_same, Nat.le_refl _, sd⟩ (fun i σ H' _ h => by
      obtain ⟨_, _, _, _, _, _, _, sm⟩ := h
      exact SqL.of (K := K) (sm _ _ (s1 _ _ hR))) ?_ ?_
    · rintro i x σ H2 H3 hi ⟨x2, x3, x4, kvs, rfl, ed, lk, sm⟩ ⟨T3, y, z, rfl, hT, rfl, hy, hz⟩
      obtain rfl : i = 0 := by
        have : [V.ref r].length = 1 := rfl
        omega
      obtain rfl : z = .ref r := (Option.some.inj hz).symm
      obtain rfl : y = .int (0 : Nat) := (Option.some.inj hy).symm
      have sT := same_new (o := .tup [.int (0 : Nat), .ref r]) hT
      have s2 := s1.trans (sm.trans sT)
      refine ⟨T3, _, rfl, SqT.of upd_same, rfl, _, _, rfl, _, _, rfl, rfl, ?_⟩
      refine ⟨_, rfl, r, fa, rfl, s2 _ _ hr0, hF.same s2, fun H4 s4 => ⟨_, rfl, iteF ?_⟩⟩
      have s24 := s2.trans s4
      refine ⟨_, rfl, r, fa, rfl, s24 _ _ hr0, hF.same s24, fun l H5 s5 nl el => ?_⟩
      refine ⟨l, rfl, ⟨_, SqL.of el⟩, ?_⟩
      obtain rfl : kvs = [] := List.length_eq_zero_iff.mp (by omega)
      have ed5 := s5 _ _ (s4 _ _ (sT _ _ ed))
      refine for_list (K := K) (xs := [V.ref fa]) (fun j σ H' => ∃ (x4 : Option V) (kvs : List (Key × V)), σ = [some (.ref R), some (.ref d), some (.int (0 : Nat)), some (.ref r), x4] ∧ H' d = some (.dK kvs) ∧ kvs.length ≤ j ∧ Same H1 H' ∧ H' l = some (.lst [V.ref fa])) ⟨x4, [], rfl, ed5, Nat.le_refl _, ((sm.trans sT).trans s4).trans s5, el⟩ (fun j σ H' _ h => by
        obtain ⟨_, _, _, _, _, _, e⟩ := h
        exact SqL.of e) ?_ ?_
      · rintro j y σ H6 hy ⟨x4, kvs, rfl, ed6, lk6, s6, el6⟩
        obtain ⟨hj, ey⟩ := List.getElem?_eq_some_iff.mp hy
        obtain rfl : j = 0 := by
          have : [V.ref fa].length = 1 := rfl
          omega
        obtain rfl : y = .ref fa := ey.symm
        obtain rfl : kvs = [] := List.length_eq_zero_iff.mp (by omega)
        obtain ⟨dx, k, f1, f2⟩ := hF.same (s1.trans s6)
        refine name_go ?_
        dsimp only
        have nl_ : d ≠ l := ne_of_none (s4 _ _ (sT _ _ ed)) nl
        refine ⟨_, rfl, fa, FC, dx, _, _, rfl, f1, T.clF, T.nF1, lk_hit, _, rfl, d, _, rfl, DGet.k (k := Sum.inr "a") ed6, _, rfl, iteF ?_⟩
        refine ⟨_, rfl, _, rfl, fa, FC, dx, _, _, rfl, f1, T.clF, T.nF1, lk_hit, d, _, rfl, DPut.k (k := Sum.inr "a") ed6 (small1000 (by show 0 ≤ 1000; decide)), ?_⟩
        refine ⟨_, _, rfl, upd_same, ?_, fun b o z => ?_, ?_⟩
        · show 1 ≤ 0 + 1
          decide
        · rw [upd_ne (ne_of_none z hd)]
          exact s6 _ _ z
        · rw [upd_ne (Ne.symm nl_)]
          exact el6
      · rintro σ H6 ⟨x4, kvs, rfl, ed6, lk6, s6, el6⟩
        exact ⟨_, _, _, kvs, rfl, ed6, lk6, s6⟩
    · rintro σ H2 ⟨x2, x3, x4, kvs, rfl, ed, lk, sm⟩
      have lk1 : kvs.length ≤ 1 := lk
      have s2 := s1.trans sm
      refine ⟨_, rfl, d, kvs, rfl, ed, _, _, rfl, rfl, _, rfl, ?_⟩
      refine (if_neg (by simp; omega)).mpr ?_
      refine ⟨_, rfl, R, r, fa, rfl, s2 _ _ hR, s2 _ _ hr0, hF.same s2, fun H3 s3 => ⟨_, _, rfl, rfl, false, rfl, iteF ?_⟩⟩
      exact q H3 (s2.trans s3)
end
end K02

set_option autoImplicit false
set_option maxErrors 4
namespace K02
open PySem PySem.Spec PyProof.Rows L2 Tl
section
variable {P : Program} {w : World} {K : PySem.W.Frag} {mg : Str → Option Value} {base : Heap} {C KC NC FC MC YC OC : Addr}
/-- a field, its kind's net told -/
def FldNet (FC KC : Addr) (H : Hp) (a n : Addr) : Prop := ∃ dx k dk t, H a = some (.ins FC dx [("name", .str "a"), ("kind", .ref k)]) ∧ H k = some (.ins KC dk (kindF t n))
theorem FldNet.same {H H' : Hp} {a n : Addr} (h : FldNet FC KC H a n) (s : Same H H') : FldNet FC KC H' a n := by
  obtain ⟨dx, k, dk, t, h1, h2⟩ := h
  exact ⟨dx, k, dk, t, s _ _ h1, s _ _ h2⟩
theorem FldAt.net {H : Hp} {a : Addr} (h : FldAt FC KC NC H a) : ∃ n, FldNet FC KC H a n ∧ NetAt NC H n (kindN rowA) := by
  obtain ⟨dx, k, h1, ⟨dk, t, n, rs, k1, k2, k3, k4, k5⟩⟩ := h
  exact ⟨n, ⟨dx, k, dk, t, h1, k1⟩, k5⟩
def spInet (FC KC NC : Addr) : Sp := fun vs H Q _ => ∃ fa n : Addr, vs = [.ref fa] ∧ FldAt FC KC NC H fa ∧ FldNet FC KC H fa n ∧ Q (.ref n) H
set_option maxHeartbeats 20000000 in
theorem ok_inet {f : Addr} {fd : FuncData} (F : FnP K "item_net" "item_net" s_item_net f fd) (T : Town K mg C KC NC FC MC YC OC) (N : Nms mg) : FnOk P w K mg base CX0 1 f fd ["item"] (spInet FC KC NC) := by
  refine F.ok sc_item_net (fun vs H Q E h => ?_) (fun cdv A outer s H vs Q E hr h => ?_)
  · obtain ⟨fa, n, rfl, _⟩ := h
    rfl
  · obtain ⟨fa, n, rfl, hF, ⟨dx, k, dk, t, h1, h2⟩, q⟩ := h
    refine ⟨_, PSs.nox (pss_cons (ps_if (pt_val (pe_callB call_isi (by rfl) N.isi (by decide +kernel) (pa_cons (pv 0) (pa_cons (pe_glob (v := .ref FC) rfl T.gF rfl) pa_nil)))) (pss_one (ps_ret (pe_fld (pe_fld (pv 0) rfl) rfl))) pss_nil) pss_never), ?_⟩
    refine ⟨_, rfl, _, _, _, _, true, rfl, .own FC, hF.ty T, T.own mF, true, rfl, iteT ?_⟩
    exact ⟨_, rfl, fa, FC, dx, _, _, rfl, h1, T.clF, T.nF2, (lk_ne (by decide +kernel)).trans lk_hit, k, KC, dk, _, _, rfl, h2, T.kd.cl, T.kd.n2, (lk_ne (by decide +kernel)).trans lk_hit, q⟩
def spRnet (FC KC NC : Addr) : Sp := fun vs H Q _ => ∃ r fa : Addr, vs = [.ref r] ∧ H r = some (.tup [.ref fa]) ∧ FldAt FC KC NC H fa ∧ ∀ v H', Same H H' → Q v H'
set_option maxHeartbeats 20000000 in
theorem ok_rnet {f : Addr} {fd : FuncData} (F : FnP K "row_net" "row_net" s_row_net f fd) {k : Nat} (hk : 1 ≤ k) (C_item_net : Can P w K mg base CX0 "item_net" ["item"] 1 (spInet FC KC NC)) (C_chained : Can P w K mg base CX0 "chained" ["nets"] k (spNets NC chainL)) : FnOk P w K mg base CX0 (k + 1) f fd ["row"] (spRnet FC KC NC) := by
  obtain ⟨f_item_net, fd_item_net, G_item_net, g_item_net, k_item_net, b_item_net⟩ := C_item_net
  obtain ⟨f_chained, fd_chained, G_chained, g_chained, k_chained, b_chained⟩ := C_chained
  have nd := sc_row_net.nd
  refine F.ok sc_row_net (fun vs H Q E h => ?_) (fun cdv A outer s H vs Q E hr h => ?_)
  · obtain ⟨r, fa, rfl, hr0, hF, q⟩ := h
    rfl
  · obtain ⟨r, fa, rfl, hr0, hF, q⟩ := h
    refine ⟨_, PSs.nox (pss_one (ps_ret (pe_call G_chained hr (by rfl) g_chained k_chained b_chained .nil pass0 (pa_cons (pe_lc (own := [("item", 1)]) (g := gName 1) (tt := tYes) rfl nd (pi_tup (pv 0)) (blkOk_by (N := ["row", "item"]) (sc := defScope s_row_net) (by decide +kernel)) (fun _ _ _ _ _ => pg_name (i := 1) nd rfl (Or.inl rfl)) (fun _ _ _ _ _ => pts_nil) (fun _ _ _ _ _ => (pe_call G_item_net (hr.mono hk) (by rfl) g_item_net k_item_net b_item_net .nil pass0 (pa_cons (pv 1) pa_nil)))) pa_nil)))), ?_⟩
    obtain ⟨n, hn, na⟩ := hF.net
    refine ⟨_, rfl, r, rfl, ⟨_, SqT.of hr0⟩, fun D hD => ?_⟩
    refine lc_it (n := [V.ref fa].length) (walk_tup (K := K) (xs := [V.ref fa])) (fun j H' => H' D = some (.lst (List.take j [V.ref n])) ∧ Same H H') ⟨upd_same, same_new hD⟩ (fun j H' _ h => SqT.of (K := K) (h.2 _ _ hr0)) ?_ ?_
    · rintro j y _ H3 hj ⟨e4, sm⟩ ⟨rfl, hy⟩
      obtain rfl : j = 0 := by
        have : [V.ref fa].length = 1 := rfl
        omega
      obtain rfl : y = .ref fa := (Option.some.inj hy).symm
      refine ⟨rfl, yes_keep ?_⟩
      refine ⟨_, rfl, fa, n, rfl, hF.same sm, hn.same sm, [], e4, small1000 (by show 0 ≤ 1000; decide), upd_same, fun b o z => ?_⟩
      rw [upd_ne (ne_of_none z hD)]
      exact sm _ _ z
    · rintro H3 ⟨e4, sm⟩
      have e4 : H3 D = some (.lst [V.ref n]) := e4
      refine ⟨D, [(n, kindN rowA)], rfl, e4, fun x hx => ?_, (by show (kindN rowA).chars.length + 0 ≤ 500; rw [netA_chars]; decide), fun r c f H4 s4 _ _ _ _ => q _ _ (sm.trans s4)⟩
      rw [List.mem_singleton.mp hx]
      exact ⟨na.same sm, netA_ok⟩
def spUe : Sp := fun vs H Q _ => ∃ (L : Addr) (v : V), vs = [.ref L] ∧ H L = some (.lst [v]) ∧ ∀ v H', Same H H' → Q v H'
set_option maxHeartbeats 20000000 in
theorem ok_ue {f : Addr} {fd : FuncData} (F : FnP K "under_each_other" "under_each_other" s_under_each_other f fd)  : FnOk P w K mg base CX0 1 f fd ["nets"] spUe := by
  have nd := sc_under_each_other.nd
  refine F.ok sc_under_each_other (fun vs H Q E h => ?_) (fun cdv A outer s H vs Q E hr h => ?_)
  · obtain ⟨L, v, rfl, hL, q⟩ := h
    rfl
  · obtain ⟨L, v, rfl, hL, q⟩ := h
    refine ⟨_, PSs.nox (pss_cons (ps_set (i := 1) nd rfl (.inl rfl) (pe_ix (r := rIxL K) ix_list (pv 0) pe_int (fun _ _ => rfl))) (pss_cons (ps_for PassesOwn.never rfl (pi_list (pe_slice sl_list (pv 0) (po_some pe_int) po_none)) (pg_name (i := 2) nd rfl (.inl rfl)) pss_never) (pss_one (ps_ret (pv 1))))), ?_⟩
    refine ⟨_, rfl, L, _, 0, _, rfl, rfl, SqL.of hL, rfl, ?_⟩
    refine name_go ?_
    dsimp only
    refine ⟨_, rfl, 1, rfl, L, _, rfl, SqL.of hL, fun p hp => ?_⟩
    rw [cut_one]
    have s1 := same_new (o := .lst (List.drop 1 [v])) hp
    refine ⟨p, rfl, ⟨_, SqL.of upd_same⟩, ?_⟩
    refine for_list (K := K) (xs := []) (fun j σ H' => ∃ x2, σ = [some (.ref L), some v, x2] ∧ H' p = some (.lst []) ∧ Same H H') ⟨none, rfl, upd_same, s1⟩ (fun j σ H' _ h => by
      obtain ⟨_, _, e, _⟩ := h
      exact SqL.of e) ?_ ?_
    · intro j y σ H3 hy
      cases hy
    · rintro σ H3 ⟨x2, rfl, _, sm⟩
      exact ⟨_, rfl, q _ H3 sm⟩
def spLnet (FC KC NC : Addr) : Sp := fun vs H Q _ => ∃ R r fa : Addr, vs = [.ref R] ∧ H R = some (.tup [.ref r]) ∧ H r = some (.tup [.ref fa]) ∧ FldAt FC KC NC H fa ∧ ∀ v H', Same H H' → Q v H'
set_option maxHeartbeats 20000000 in
theorem ok_lnet {f : Addr} {fd : FuncData} (F : FnP K "lines_net" "lines_net" s_lines_net f fd) {k : Nat} (hk : 1 ≤ k) (C_row_net : Can P w K mg base CX0 "row_net" ["row"] k (spRnet FC KC NC)) (C_under_each_other : Can P w K mg base CX0 "under_each_other" ["nets"] 1 spUe) : FnOk P w K mg base CX0 (k + 1) f fd ["lines"] (spLnet FC KC NC) := by
  obtain ⟨f_row_net, fd_row_net, G_row_net, g_row_net, k_row_net, b_row_net⟩ := C_row_net
  obtain ⟨f_under_each_other, fd_under_each_other, G_under_each_other, g_under_each_other, k_under_each_other, b_under_each_other⟩ := C_under_each_other
  have nd := sc_lines_net.nd
  refine F.ok sc_lines_net (fun vs H Q E h => ?_) (fun cdv A outer s H vs Q E hr h => ?_)
  · obtain ⟨R, r, fa, rfl, hR, hr0, hF, q⟩ := h
    rfl
  · obtain ⟨R, r, fa, rfl, hR, hr0, hF, q⟩ := h
    refine ⟨_, PSs.nox (pss_one (ps_ret (pe_call G_under_each_other (hr.mono hk) (by rfl) g_under_each_other k_under_each_other b_under_each_other .nil pass0 (pa_cons (pe_lc (own := [("line", 1)]) (g := gName 1) (tt := tYes) rfl nd (pi_tup (pv 0)) (blkOk_by (N := ["lines", "line"]) (sc := defScope s_lines_net) (by decide +kernel)) (fun _ _ _ _ _ => pg_name (i := 1) nd rfl (Or.inl rfl)) (fun _ _ _ _ _ => pts_nil) (fun _ _ _ _ _ => (pe_call G_row_net hr (by rfl) g_row_net k_row_net b_row_net .nil pass0 (pa_cons (pv 1) pa_nil)))) pa_nil)))), ?_⟩
    refine ⟨_, rfl, R, rfl, ⟨_, SqT.of hR⟩, fun D hD => ?_⟩
    refine lc_it (n := [V.ref r].length) (walk_tup (K := K) (xs := [V.ref r])) (fun j H' => ∃ acc, H' D = some (.lst acc) ∧ acc.length = j ∧ Same H H') ⟨[], upd_same, rfl, same_new hD⟩ (fun j H' _ h => by
      obtain ⟨_, _, _, sm⟩ := h
      exact SqT.of (K := K) (sm _ _ hR)) ?_ ?_
    · rintro j y _ H3 hj ⟨acc, e4, la, sm⟩ ⟨rfl, hy⟩
      obtain rfl : j = 0 := by
        have : [V.ref r].length = 1 := rfl
        omega
      obtain rfl : y = .ref r := (Option.some.inj hy).symm
      obtain rfl : acc = [] := List.length_eq_zero_iff.mp la
      refine ⟨rfl, yes_keep ?_⟩
      refine ⟨_, rfl, r, fa, rfl, sm _ _ hr0, hF.same sm, fun v H4 s4 => ⟨[], s4 _ _ e4, small1000 (by show 0 ≤ 1000; decide), [v], upd_same, rfl, fun b o z => ?_⟩⟩
      rw [upd_ne (ne_of_none z hD)]
      exact s4 _ _ (sm _ _ z)
    · rintro H3 ⟨acc, e4, la, sm⟩
      obtain ⟨v, rfl⟩ := List.length_eq_one_iff.mp la
      exact ⟨D, v, rfl, e4, fun v' H4 s4 => q v' H4 (sm.trans s4)⟩
def spRh (FC KC NC : Addr) : Sp := fun vs H Q _ => ∃ r fa : Addr, vs = [.ref r] ∧ H r = some (.tup [.ref fa]) ∧ FldAt FC KC NC H fa ∧ ∀ l H', Same H H' → H' l = some (.lst [.str "a"]) → Q (.ref l) H'
set_option maxHeartbeats 20000000 in
theorem ok_rh {f : Addr} {fd : FuncData} (F : FnP K "row_holders" "row_holders" s_row_holders f fd) (T : Town K mg C KC NC FC MC YC OC) (N : Nms mg) (C_item_size : Can P w K mg base CX0 "item_size" ["item"] 1 (spIsz FC KC NC)) : FnOk P w K mg base CX0 2 f fd ["row"] (spRh FC KC NC) := by
  obtain ⟨f_item_size, fd_item_size, G_item_size, g_item_size, k_item_size, b_item_size⟩ := C_item_size
  have nd := sc_row_holders.nd
  refine F.ok sc_row_holders (fun vs H Q E h => ?_) (fun cdv A outer s H vs Q E hr h => ?_)
  · obtain ⟨r, fa, rfl, hr0, hF, q⟩ := h
    rfl
  · obtain ⟨r, fa, rfl, hr0, hF, q⟩ := h
    refine ⟨_, PSs.nox (pss_cons (ps_set (i := 1) nd rfl (.inl rfl) (pe_lst pa_nil)) (pss_cons (ps_for PassesOwn.never rfl (pi_tup (pv 0)) (pg_name (i := 2) nd rfl (.inl rfl))
      (pss_one (ps_if (pt_val (pe_callB call_isi (by rfl) N.isi (by decide +kernel) (pa_cons (pv 2) (pa_cons (pe_glob (v := .ref YC) rfl T.gY rfl) pa_nil)))) pss_never (pss_cons (ps_set (i := 3) nd rfl (.inl rfl) (pe_ifExp (pt_val (pe_callB call_isi (by rfl) N.isi (by decide +kernel) (pa_cons (pv 2) (pa_cons (pe_glob (v := .ref FC) rfl T.gF rfl) pa_nil)))) (pe_fld (pv 2) rfl) pe_no))
        (pss_one (ps_expr (pe_bm PySem.F.plainAttrs_list PySem.F.slot_list_extend PySem.F.type_list_extend mt_extend (pv 1) (pa_cons (pe_op op_rep (pe_lst (pa_cons (pv 3) pa_nil)) (pe_call G_item_size hr (by rfl) g_item_size k_item_size b_item_size .nil pass0 (pa_cons (pv 2) pa_nil))) pa_nil))))))))
      (pss_one (ps_ret (pv 1))))), ?_⟩
    refine ⟨line_small (by show 0 ≤ 16777216; decide), fun L hL => ?_⟩
    have s0 := same_new (o := .lst []) hL
    refine name_go ?_
    dsimp only
    refine ⟨_, rfl, r, rfl, ⟨_, SqT.of (s0 _ _ hr0)⟩, ?_⟩
    refine for_tup (K := K) (xs := [.ref fa]) (fun j σ H' => ∃ x2 x3, σ = [some (.ref r), some (.ref L), x2, x3] ∧ H' L = some (.lst (List.take j [V.str "a"])) ∧ Same H H') ⟨none, none, rfl, upd_same, s0⟩ (fun j σ H' _ h => by
      obtain ⟨_, _, _, _, sm⟩ := h
      exact SqT.of (sm _ _ hr0)) ?_ ?_
    · rintro j y σ H3 hy ⟨x2, x3, rfl, e4, sm⟩
      obtain ⟨hj, ey⟩ := List.getElem?_eq_some_iff.mp hy
      obtain rfl : j = 0 := by
        have : [V.ref fa].length = 1 := rfl
        omega
      obtain rfl : y = .ref fa := ey.symm
      have hF3 := hF.same sm
      obtain ⟨dx, k, f1, f2⟩ := id hF3
      refine name_go ?_
      dsimp only
      refine ⟨_, rfl, _, _, _, _, false, rfl, .own YC, hF3.ty T, T.no mF mY T.ne.2.1, _, rfl, iteF ?_⟩
      refine ⟨_, rfl, _, _, _, _, true, rfl, .own FC, hF3.ty T, T.own mF, _, rfl, iteT ?_⟩
      refine ⟨_, rfl, fa, FC, dx, _, _, rfl, f1, T.clF, T.nF1, lk_hit, ?_⟩
      refine name_go ?_
      dsimp only
      refine ⟨_, rfl, .inl ⟨rfl, _, SqL.of e4⟩, _, rfl, line_small (by show 1 ≤ 16777216; decide), fun p1 n1 => ?_⟩
      have s1 := same_new (o := .lst [V.str "a"]) n1
      refine ⟨_, rfl, fa, rfl, hF3.same s1, p1, 1, [V.str "a"], rfl, rfl, upd_same, (by decide), (by decide), line_small (by show 1 ≤ 16777216; decide), fun p2 n2 => ?_⟩
      have s2 := same_new (o := .lst (List.replicate (Int.toNat 1) [V.str "a"]).flatten) n2
      refine ⟨L, p2, _, [V.str "a"], rfl, rfl, s2 _ _ (s1 _ _ e4), upd_same, line_small (by show 1 ≤ 16777216; decide), ?_⟩
      exact ⟨_, _, rfl, upd_same, fun b o z => by
        rw [upd_ne (ne_of_none z hL)]
        exact s2 _ _ (s1 _ _ (sm _ _ z))⟩
    · rintro σ H3 ⟨x2, x3, rfl, e4, sm⟩
      exact ⟨_, rfl, q L H3 sm e4⟩
def spLh (FC KC NC : Addr) : Sp := fun vs H Q _ => ∃ R r fa : Addr, vs = [.ref R] ∧ H R = some (.tup [.ref r]) ∧ H r = some (.tup [.ref fa]) ∧ FldAt FC KC NC H fa ∧ ∀ l H', Same H H' → H' l = some (.lst [.str "a"]) → Q (.ref l) H'
set_option maxHeartbeats 20000000 in
theorem ok_lh {f : Addr} {fd : FuncData} (F : FnP K "lines_holders" "lines_holders" s_lines_holders f fd) (C_row_holders : Can P w K mg base CX0 "row_holders" ["row"] 2 (spRh FC KC NC)) : FnOk P w K mg base CX0 3 f fd ["lines"] (spLh FC KC NC) := by
  obtain ⟨f_row_holders, fd_row_holders, G_row_holders, g_row_holders, k_row_holders, b_row_holders⟩ := C_row_holders
  have nd := sc_lines_holders.nd
  refine F.ok sc_lines_holders (fun vs H Q E h => ?_) (fun cdv A outer s H vs Q E hr h => ?_)
  · obtain ⟨R, r, fa, rfl, hR, hr0, hF, q⟩ := h
    rfl
  · obtain ⟨R, r, fa, rfl, hR, hr0, hF, q⟩ := h
    refine ⟨_, PSs.nox (pss_cons (ps_set (i := 1) nd rfl (.inl rfl) (pe_call G_row_holders hr (by rfl) g_row_holders k_row_holders b_row_holders .nil pass0 (pa_cons (pe_ix (r := rIxT K) ix_tup (pv 0) pe_int (fun _ _ => rfl)) pa_nil))) (pss_cons (ps_for PassesOwn.never rfl (pi_tup (pe_slice sl_tup (pv 0) (po_some pe_int) po_none)) (pg_name (i := 2) nd rfl (.inl rfl)) pss_never) (pss_one (ps_ret (pv 1))))), ?_⟩
    refine ⟨_, rfl, R, _, 0, _, rfl, rfl, SqT.of hR, rfl, r, fa, rfl, hr0, hF, fun l H1 s1 el => ?_⟩
    refine name_go ?_
    dsimp only
    refine ⟨_, rfl, 1, rfl, R, _, rfl, SqT.of (s1 _ _ hR), (by show ¬ (1 = 0 ∧ 1 = 1); decide), fun p hp => ?_⟩
    rw [cut_one]
    have s2 := same_new (o := .tup (List.drop 1 [V.ref r])) hp
    refine ⟨p, rfl, ⟨_, SqT.of upd_same⟩, ?_⟩
    refine for_tup (K := K) (xs := []) (fun j σ H' => ∃ x2, σ = [some (.ref R), some (.ref l), x2] ∧ H' p = some (.tup []) ∧ Same H1 H') ⟨none, rfl, upd_same, s2⟩ (fun j σ H' _ h => by
      obtain ⟨_, _, e, _⟩ := h
      exact SqT.of e) ?_ ?_
    · intro j y σ H3 hy
      cases hy
    · rintro σ H3 ⟨x2, rfl, _, sm⟩
      exact ⟨_, rfl, q l H3 (s1.trans sm) (sm _ _ el)⟩
end
end K02

set_option autoImplicit false
set_option maxErrors 4
namespace K02
open PySem PySem.Spec PyProof.Rows L2 Tl
section
variable {P : Program} {w : World} {K : PySem.W.Frag} {mg : Str → Option Value} {base : Heap} {C KC NC FC MC YC OC : Addr}
/-- all but p stands as it stood: a field, too -/
theorem FldAt.but {H H' : Hp} {a p dx : Addr} (h : FldAt FC KC NC H a) (hp : H p = some (.ins OC dx [])) (b : But p H H') : FldAt FC KC NC H' a := by
  obtain ⟨dy, k, h1, ⟨dk, t, n, rs, k1, k2, k3, k4, dn, c, f, d, n1, n2, n3, n4⟩⟩ := h
  have ne : ∀ {x : Addr} {o : HO}, H x = some o → o ≠ .ins OC dx [] → H' x = some o := fun {x o} e no => b x o e fun z => no (by rw [z, hp] at e; exact (Option.some.inj e).symm)
  refine ⟨dy, k, ne h1 (fun z => by cases z), dk, t, n, rs, ne k1 (fun z => by cases z), ne k2 (fun z => by cases z), k3, k4.tups fun b' xs e => ne e (fun z => by cases z), dn, c, f, d, ne n1 (fun z => by cases z), ne n2 (fun z => by cases z), ne n3 (fun z => by cases z), ne n4 (fun z => by cases z)⟩
theorem But.upd {p : Addr} {H H' : Hp} {o : HO} (b : But p H H') : But p H (upd H' p o) := fun x u e n => by
  rw [upd_ne n]
  exact b x u e n
theorem But.trans {p : Addr} {H H' H2 : Hp} (b : But p H H') (s : Same H' H2) : But p H H2 := fun x u e n => s _ _ (b x u e n)
def spOs : Sp := fun vs H Q _ => ∃ h : Addr, vs = [.ref h] ∧ H h = some (.tup [.str "a"]) ∧ ∀ v H', Same H H' → Q v H'
set_option maxHeartbeats 20000000 in
theorem ok_os {f : Addr} {fd : FuncData} (F : FnP K "owner_sets" "owner_sets" s_owner_sets f fd) (N : Nms mg) : FnOk P w K mg base CX0 1 f fd ["holders"] spOs := by
  have nd := sc_owner_sets.nd
  refine F.ok sc_owner_sets (fun vs H Q E h => ?_) (fun cdv A outer s H vs Q E hr h => ?_)
  · obtain ⟨h, rfl, hh, q⟩ := h
    rfl
  · obtain ⟨h, rfl, hh, q⟩ := h
    have hu : (A.deeper (envOfC "owner_sets" (defScope s_owner_sets) s.heap.objs.size f cdv)).units + 1 < cLine := by have := hr.un; omega
    refine ⟨_, PSs.nox (pss_cons (ps_set (i := 1) nd rfl (.inr rfl) pe_dnewK)
      (pss_cons (ps_for PassesOwn.never rfl (pi_enumT (by rfl) N.enumerate (pa_cons (pv 0) pa_nil)) (pg_tup rfl (pgs_cons (pg_name (i := 2) nd rfl (.inl rfl) (.inr rfl)) (pgs_cons (pg_name (i := 3) nd rfl (.inl rfl) (.inr rfl)) pgs_nil)))
        (pss_cons (ps_set (i := 4) nd rfl (.inl rfl) (pe_ifExp (pt_cmpR op_isN (pv 3) pe_non (nomark _)) pe_no (pv 3)))
        (pss_one (ps_dput hu (pv 1) (pv 4) (pe_op op_orNat (pe_dget2 hu (pv 1) (pv 4) pe_int ⟨rfl, rfl, rfl, rfl⟩) (pe_op op_shlNat pe_int (pe_op op_addNat pe_int (pv 2)))) rfl))))
      (pss_one (ps_ret (pe_callTy call_tuple_of (by rfl) N.tuple (by decide +kernel) (pa_cons (pe_lc (own := [("owner", 4)]) (g := gName 4) (tt := tYes) rfl nd (pi_list (pe_callB (r := rSortedS K) cr_sortedS (by rfl) N.sorted (by decide +kernel) (pa_cons (pe_callTy (call_listD rfl) (by rfl) N.list (by decide +kernel) (pa_cons (pv 1) pa_nil)) pa_nil))) (blkOk_by (N := ["holders", "sets", "place", "name", "owner"]) (sc := defScope s_owner_sets) (by decide +kernel)) (fun _ _ _ _ _ => pg_name (i := 4) nd rfl (Or.inl rfl)) (fun _ _ _ _ _ => pts_nil)
        (fun _ _ _ _ _ => pe_tup (pa_cons (pv 4) (pa_cons (pe_dget hu (pv 1) (pv 4) (fun _ _ => rfl)) pa_nil)))) pa_nil)))))), ?_⟩
    intro d hd
    have sd := same_new (o := .dK []) hd
    refine name_go ?_
    dsimp only
    refine seq_go ?_
    refine ⟨_, rfl, h, _, rfl, SqT.of (sd _ _ hh), ?_⟩
    refine for_it (n := [V.str "a"].length) (walk_enumT (K := K) (xs := [V.str "a"])) (fun i σ H' => ∃ (x2 x3 x4 : Option V) (kvs : List (Key × V)), σ = [some (.ref h), some (.ref d), x2, x3, x4] ∧ H' d = some (.dK kvs) ∧ (i = 0 → kvs = []) ∧ (i = 1 → ∃ v, kvs = [((Sum.inr (Str.ofString "a") : Key), v)]) ∧ Same H H') ⟨none, none, none, [], rfl, upd_same, (fun _ => rfl), (fun z => by cases z), sd⟩ (fun i σ H' _ h => by
      obtain ⟨_, _, _, _, _, _, _, _, sm⟩ := h
      exact SqT.of (K := K) (sm _ _ hh)) ?_ ?_
    · rintro i x σ H2 H3 hi ⟨x2, x3, x4, kvs, rfl, ed, k0, k1, sm⟩ ⟨T3, y, z, rfl, hT, rfl, hy, hz⟩
      obtain rfl : i = 0 := by
        have : [V.str "a"].length = 1 := rfl
        omega
      obtain rfl : kvs = [] := k0 rfl
      obtain rfl : z = .str "a" := (Option.some.inj hz).symm
      obtain rfl : y = .int (0 : Nat) := (Option.some.inj hy).symm
      have sT := same_new (o := .tup [.int (0 : Nat), .str "a"]) hT
      have e1 := sT _ _ ed
      refine ⟨T3, _, rfl, SqT.of upd_same, rfl, _, _, rfl, _, _, rfl, rfl, ?_⟩
      refine ⟨_, rfl, rfl, _, rfl, iteF ?_⟩
      refine ⟨_, rfl, ?_⟩
      refine name_go ?_
      dsimp only
      refine ⟨_, rfl, d, rfl, .inl ⟨_, .inl e1⟩, _, rfl, _, DGet.k (k := Sum.inr "a") e1, ?_⟩
      have wide : 1 < 2 ^ 4000 := Nat.lt_of_lt_of_le (show 1 < 2 ^ 1 by decide) (Nat.pow_le_pow_right (by decide) (by decide))
      refine ⟨_, rfl, 1, 0, rfl, rfl, 1, 1, rfl, rfl, wide, (by decide), 0, _, rfl, rfl, ?_⟩
      refine ⟨_, rfl, _, rfl, d, _, rfl, DPut.k (k := Sum.inr "a") e1 (small1000 (by show 0 ≤ 1000; decide)), ?_⟩
      refine ⟨_, _, _, _, rfl, upd_same, (fun z => by cases z), (fun _ => ⟨_, rfl⟩), fun b o zb => ?_⟩
      rw [upd_ne (ne_of_none zb hd)]
      exact sT _ _ (sm _ _ zb)
    · rintro σ H2 ⟨x2, x3, x4, kvs, rfl, ed, k0, k1, sm⟩
      obtain ⟨v, rfl⟩ := k1 rfl
      refine ⟨_, rfl, d, _, rfl, .inl ed, fun L1 n1 => ?_⟩
      have s1 := same_new (o := .lst ([((Sum.inr (Str.ofString "a") : Key), v)].map fun kv : Key × V => kV kv.1)) n1
      refine ⟨L1, [Str.ofString "a"], rfl, SqL.of upd_same, (by decide), fun ys L2 pm _ n2 => ?_⟩
      obtain rfl : ys = [Str.ofString "a"] := List.perm_singleton.mp pm
      have s2 := same_new (o := .lst ([Str.ofString "a"].map V.str)) n2
      have s12 := s1.trans s2
      refine ⟨L2, rfl, ⟨_, SqL.of upd_same⟩, fun D hD => ?_⟩
      refine lc_it (n := [V.str "a"].length) (walk_list (K := K) (xs := [V.str "a"])) (fun j H' => ∃ acc, H' D = some (.lst acc) ∧ acc.length = j ∧ Same (upd (upd H2 L1 (.lst ([((Sum.inr (Str.ofString "a") : Key), v)].map fun kv : Key × V => kV kv.1))) L2 (.lst ([Str.ofString "a"].map V.str))) H') ⟨[], upd_same, rfl, same_new hD⟩ (fun j H' _ h => by
        obtain ⟨_, _, _, s3⟩ := h
        exact SqL.of (K := K) (s3 _ _ upd_same)) ?_ ?_
      · rintro j y _ H3 hj ⟨acc, e4, la, s3⟩ ⟨rfl, hy⟩
        obtain rfl : j = 0 := by
          have : [V.str "a"].length = 1 := rfl
          omega
        obtain rfl : y = .str "a" := (Option.some.inj hy).symm
        obtain rfl : acc = [] := List.length_eq_zero_iff.mp la
        refine ⟨rfl, yes_keep ?_⟩
        have ed3 := s3 _ _ (s12 _ _ ed)
        refine ⟨_, rfl, _, rfl, _, rfl, d, _, rfl, DGet.k (k := Sum.inr "a") ed3, line_small (by show 2 ≤ 16777216; decide), fun t nt => ?_⟩
        refine ⟨[], ?_, small1000 (by show 0 ≤ 1000; decide), _, upd_same, rfl, fun b o z => ?_⟩
        · rw [upd_ne (ne_of_none e4 nt)]
          exact e4
        · rw [upd_ne (ne_of_none z hD), upd_ne (ne_of_none (s3 _ _ z) nt)]
          exact s3 _ _ z
      · rintro H3 ⟨acc, e4, la, s3⟩
        refine ⟨D, _, rfl, .inl ⟨SqL.of e4, fun t nt => ?_⟩⟩
        exact q _ _ (((sm.trans s12).trans s3).trans (same_new nt))
end
end K02

set_option autoImplicit false
set_option maxErrors 4
namespace K02
open PySem PySem.Spec PyProof.Rows L2 Tl
section
variable {P : Program} {w : World} {K : PySem.W.Frag} {mg : Str → Option Value} {base : Heap} {C KC NC FC MC YC OC : Addr}
def spOinit (FC KC NC OC : Addr) : Sp := fun vs H Q _ => ∃ p dx R r fa : Addr, vs = [.ref p, .ref R] ∧ H p = some (.ins OC dx []) ∧ H R = some (.lst [.ref r]) ∧ H r = some (.lst [.ref fa]) ∧ FldAt FC KC NC H fa ∧ ∀ fs H', But p H H' → H' p = some (.ins OC dx fs) → Q .non H'
set_option maxHeartbeats 20000000 in
theorem ok_o_init {f : Addr} {fd : FuncData} (F : FnP K "__init__" "Form.__init__" s_Form_init_ f fd) (T : Town K mg C KC NC FC MC YC OC) (N : Nms mg) (C_check_lines : Can P w K mg base CX0 "check_lines" ["lines"] 4 (spCheck FC KC NC)) (C_joined : Can P w K mg base CX0 "joined" ["row"] 1 (spJoined FC KC NC)) (C_fields_in : Can P w K mg base CX0 "fields_in" ["row"] 1 (spFin_tup FC KC NC)) {kn : Nat} (hkn : 4 ≤ kn) (C_lines_net : Can P w K mg base CX0 "lines_net" ["lines"] kn (spLnet FC KC NC)) (C_lines_holders : Can P w K mg base CX0 "lines_holders" ["lines"] 3 (spLh FC KC NC)) (C_owner_sets : Can P w K mg base CX0 "owner_sets" ["holders"] 1 spOs) : FnOk P w K mg base CX0 (kn + 1) f fd ["self", "lines"] (spOinit FC KC NC OC) := by
  obtain ⟨f_check_lines, fd_check_lines, G_check_lines, g_check_lines, k_check_lines, b_check_lines⟩ := C_check_lines
  obtain ⟨f_joined, fd_joined, G_joined, g_joined, k_joined, b_joined⟩ := C_joined
  obtain ⟨f_fields_in, fd_fields_in, G_fields_in, g_fields_in, k_fields_in, b_fields_in⟩ := C_fields_in
  obtain ⟨f_lines_net, fd_lines_net, G_lines_net, g_lines_net, k_lines_net, b_lines_net⟩ := C_lines_net
  obtain ⟨f_lines_holders, fd_lines_holders, G_lines_holders, g_lines_holders, k_lines_holders, b_lines_holders⟩ := C_lines_holders
  obtain ⟨f_owner_sets, fd_owner_sets, G_owner_sets, g_owner_sets, k_owner_sets, b_owner_sets⟩ := C_owner_sets
  have nd := sc_Form_init_.nd
  refine F.ok sc_Form_init_ (fun vs H Q E h => ?_) (fun cdv A outer s H vs Q E hr h => ?_)
  · obtain ⟨p, dx, R, r, fa, rfl, hp, hR, hr0, hF, q⟩ := h
    rfl
  · obtain ⟨p, dx, R, r, fa, rfl, hp, hR, hr0, hF, q⟩ := h
    refine ⟨_, PSs.nox (pss_cons (ps_expr (pe_call G_check_lines (hr.mono (by omega)) (by rfl) g_check_lines k_check_lines b_check_lines .nil pass0 (pa_cons (pv 1) pa_nil)))
      (pss_cons (ps_fld (pv 0) (pe_callTy call_tuple_of (by rfl) N.tuple (by decide +kernel) (pa_cons (pe_lc (own := [("line", 2)]) (g := gName 2) (tt := tYes) rfl nd (pi_list (pv 1)) (blkOk_by (N := ["self", "lines", "line", "field"]) (sc := defScope s_Form_init_) (by decide +kernel)) (fun _ _ _ _ _ => pg_name (i := 2) nd rfl (Or.inl rfl)) (fun _ _ _ _ _ => pts_nil) (fun _ _ _ _ _ => (pe_call G_joined (hr.mono (by omega)) (by rfl) g_joined k_joined b_joined .nil pass0 (pa_cons (pv 2) pa_nil)))) pa_nil)) rfl)
      (pss_cons (ps_fld (pv 0) (pe_callTy call_tuple_of (by rfl) N.tuple (by decide +kernel) (pa_cons (pe_lc2 (own := [("line", 2), ("field", 3)]) (vs1 := [3]) (g := gName 2) (tt := tYes) (wi1 := iList K (tCall (spFin_tup FC KC NC) [] E0 (tCons (tVar 2) tNil))) (g1 := gName 3) (tt1 := tYes) rfl nd (pi_tup (pe_fld (pv 0) rfl)) (blkOk_by (N := ["self", "lines", "line", "field"]) (sc := defScope s_Form_init_) (by decide +kernel)) (by decide) (fun _ _ _ _ _ => pg_name (i := 2) nd rfl (Or.inl rfl)) (fun _ _ _ _ _ => pts_nil) (fun _ _ _ _ _ => pi_list (pe_call G_fields_in (hr.mono (by omega)) (by rfl) g_fields_in k_fields_in b_fields_in .nil pass0 (pa_cons (pv 2) pa_nil))) (fun _ _ _ _ _ => pg_name (i := 3) nd rfl (Or.inl rfl)) (fun _ _ _ _ _ => pts_nil) (fun _ _ _ _ _ => pv 3)) pa_nil)) rfl)
      (pss_cons (ps_fld (pv 0) (pe_call G_lines_net hr (by rfl) g_lines_net k_lines_net b_lines_net .nil pass0 (pa_cons (pe_fld (pv 0) rfl) pa_nil)) rfl)
      (pss_cons (ps_fld (pv 0) (pe_callTy call_tuple_of (by rfl) N.tuple (by decide +kernel) (pa_cons (pe_call G_lines_holders (hr.mono (by omega)) (by rfl) g_lines_holders k_lines_holders b_lines_holders .nil pass0 (pa_cons (pe_fld (pv 0) rfl) pa_nil)) pa_nil)) rfl)
      (pss_one (ps_fld (pv 0) (pe_call G_owner_sets (hr.mono (by omega)) (by rfl) g_owner_sets k_owner_sets b_owner_sets .nil pass0 (pa_cons (pe_fld (pv 0) rfl) pa_nil)) rfl))))))), ?_⟩
    refine ⟨_, rfl, R, r, fa, rfl, hR, hr0, hF, fun H1 s1 => ?_⟩
    -- lines
    refine ⟨_, rfl, R, rfl, ⟨_, SqL.of (s1 _ _ hR)⟩, fun D hD => ?_⟩
    refine lc_it (n := [V.ref r].length) (walk_list (K := K) (xs := [V.ref r])) (fun j H' => ∃ acc, H' D = some (.lst acc) ∧ acc.length = j ∧ (∀ v ∈ acc, ∃ t, v = V.ref t ∧ H' t = some (.tup [.ref fa])) ∧ Same H1 H') ⟨[], upd_same, rfl, (fun v h => by cases h), same_new hD⟩ (fun j H' _ h => by
      obtain ⟨_, _, _, _, sm⟩ := h
      exact SqL.of (K := K) (sm _ _ (s1 _ _ hR))) ?_ ?_
    · rintro j y _ H3 hj ⟨acc, e4, la, _, sm⟩ ⟨rfl, hy⟩
      obtain rfl : j = 0 := by
        have : [V.ref r].length = 1 := rfl
        omega
      obtain rfl : y = .ref r := (Option.some.inj hy).symm
      obtain rfl : acc = [] := List.length_eq_zero_iff.mp la
      have s13 := s1.trans sm
      refine ⟨rfl, yes_keep ?_⟩
      refine ⟨_, rfl, r, fa, rfl, s13 _ _ hr0, hF.same s13, fun t H4 s4 nt et => ⟨[], s4 _ _ e4, small1000 (by show 0 ≤ 1000; decide), [V.ref t], upd_same, rfl, fun v hv => ⟨t, List.mem_singleton.mp hv, ?_⟩, fun b o z => ?_⟩⟩
      · rw [upd_ne (fun z => by rw [z, s4 _ _ e4] at et; cases et)]
        exact et
      · rw [upd_ne (ne_of_none z hD)]
        exact s4 _ _ (sm _ _ z)
    rintro H3 ⟨acc, e4, la, each, sm⟩
    obtain ⟨v0, rfl⟩ := List.length_eq_one_iff.mp la
    obtain ⟨t, rfl, et⟩ := each v0 (List.mem_singleton.mpr rfl)
    refine ⟨D, _, rfl, .inl ⟨SqL.of e4, fun u nu => ?_⟩⟩
    have su := same_new (o := .tup [V.ref t]) nu
    have sA := (s1.trans sm).trans su
    have eu : (L2.upd H3 u (.tup [V.ref t])) u = some (.tup [V.ref t]) := upd_same
    have et' := su _ _ et
    generalize L2.upd H3 u (.tup [V.ref t]) = HA at sA eu et' ⊢
    have pA := sA _ _ hp
    have up : u ≠ p := fun z => by rw [z, pA] at eu; cases eu
    have tp : t ≠ p := fun z => by rw [z, pA] at et'; cases et'
    have bA : But p H HA := fun x o e _ => sA _ _ e
    refine ⟨_, rfl, p, OC, dx, _, rfl, pA, T.clO, T.nO1, (by show 0 < 1000; decide), ?_⟩
    -- fields
    have bB : But p H (L2.upd HA p (.ins OC dx (putF "lines" (.ref u) []))) := bA.upd
    have pB : (L2.upd HA p (.ins OC dx (putF "lines" (.ref u) []))) p = some (.ins OC dx [("lines", .ref u)]) := upd_same
    have uB : (L2.upd HA p (.ins OC dx (putF "lines" (.ref u) []))) u = some (.tup [V.ref t]) := by rw [upd_ne up]; exact eu
    have tB : (L2.upd HA p (.ins OC dx (putF "lines" (.ref u) []))) t = some (.tup [V.ref fa]) := by rw [upd_ne tp]; exact et'
    show _
    generalize L2.upd HA p (.ins OC dx (putF "lines" (.ref u) [])) = HB at bB pB uB tB ⊢
    have hFB := hF.but hp bB
    refine ⟨_, rfl, p, OC, dx, _, _, rfl, pB, T.clO, T.nO1, lk_hit, u, rfl, ⟨_, SqT.of uB⟩, fun D2 hD2 => ?_⟩
    refine out_it (n := [V.ref t].length) (walk_tup (K := K) (xs := [V.ref t])) (fun i H' => H' D2 = some (.lst (List.take i [V.ref fa])) ∧ Same HB H') ⟨upd_same, same_new hD2⟩ (fun i H' _ h => SqT.of (K := K) (h.2 _ _ uB)) ?_ ?_
    · rintro j y _ H4 hj ⟨e5, sm4⟩ ⟨rfl, hy⟩
      obtain rfl : j = 0 := by
        have : [V.ref t].length = 1 := rfl
        omega
      obtain rfl : y = .ref t := (Option.some.inj hy).symm
      refine ⟨rfl, yes_keep ?_⟩
      refine ⟨_, rfl, t, fa, rfl, sm4 _ _ tB, hFB.same sm4, fun l H5 s5 nl el => ?_⟩
      refine ⟨l, rfl, ⟨_, SqL.of el⟩, ?_⟩
      have nlD : D2 ≠ l := ne_of_none e5 nl
      refine in_it (n := [V.ref fa].length) (walk_list (K := K) (xs := [V.ref fa])) (fun j H' => H' D2 = some (.lst (List.take j [V.ref fa])) ∧ Same HB H' ∧ H' l = some (.lst [V.ref fa])) ⟨s5 _ _ e5, sm4.trans s5, el⟩ (fun j H' _ h => SqL.of (K := K) h.2.2) ?_ ?_
      · rintro j y _ H6 hj ⟨e6, s6, el6⟩ ⟨rfl, hy⟩
        obtain rfl : j = 0 := by
          have : [V.ref fa].length = 1 := rfl
          omega
        obtain rfl : y = .ref fa := (Option.some.inj hy).symm
        refine ⟨rfl, yes_keep ?_⟩
        refine ⟨_, rfl, [], e6, small1000 (by show 0 ≤ 1000; decide), upd_same, fun b o z => ?_, ?_⟩
        · rw [upd_ne (ne_of_none z hD2)]
          exact s6 _ _ z
        · rw [upd_ne (Ne.symm nlD)]
          exact el6
      · rintro H6 ⟨e6, s6, _⟩
        exact ⟨e6, s6⟩
    rintro H4 ⟨e5, sm4⟩
    have e5 : H4 D2 = some (.lst [V.ref fa]) := e5
    refine ⟨D2, _, rfl, .inl ⟨SqL.of e5, fun u2 nu2 => ?_⟩⟩
    have s4u := sm4.trans (same_new (o := .tup [V.ref fa]) nu2)
    have bC0 := bB.trans s4u
    have pC0 := s4u _ _ pB
    have uC0 := s4u _ _ uB
    have tC0 := s4u _ _ tB
    generalize L2.upd H4 u2 (.tup [V.ref fa]) = HC at bC0 pC0 uC0 tC0 ⊢
    refine ⟨_, rfl, p, OC, dx, _, rfl, pC0, T.clO, T.nO2, (by show 1 < 1000; decide), ?_⟩
    -- net
    have bD : But p H (L2.upd HC p (.ins OC dx (putF "fields" (.ref u2) [("lines", .ref u)]))) := bC0.upd
    have pD : (L2.upd HC p (.ins OC dx (putF "fields" (.ref u2) [("lines", .ref u)]))) p = some (.ins OC dx [("lines", .ref u), ("fields", .ref u2)]) := upd_same
    have uD : (L2.upd HC p (.ins OC dx (putF "fields" (.ref u2) [("lines", .ref u)]))) u = some (.tup [V.ref t]) := by rw [upd_ne up]; exact uC0
    have tD : (L2.upd HC p (.ins OC dx (putF "fields" (.ref u2) [("lines", .ref u)]))) t = some (.tup [V.ref fa]) := by rw [upd_ne tp]; exact tC0
    show _
    generalize L2.upd HC p (.ins OC dx (putF "fields" (.ref u2) [("lines", .ref u)])) = HD at bD pD uD tD ⊢
    have hFD := hF.but hp bD
    refine ⟨_, rfl, p, OC, dx, _, _, rfl, pD, T.clO, T.nO1, lk_hit, u, t, fa, rfl, uD, tD, hFD, fun nv HE sE => ?_⟩
    have bE0 := bD.trans sE
    have pE0 := sE _ _ pD
    have uE0 := sE _ _ uD
    have tE0 := sE _ _ tD
    refine ⟨_, rfl, p, OC, dx, _, rfl, pE0, T.clO, T.nO3, (by show 2 < 1000; decide), ?_⟩
    have bG : But p H (L2.upd HE p (.ins OC dx (putF "net" (nv) [("lines", .ref u), ("fields", .ref u2)]))) := bE0.upd
    have pG : (L2.upd HE p (.ins OC dx (putF "net" (nv) [("lines", .ref u), ("fields", .ref u2)]))) p = some (.ins OC dx [("lines", .ref u), ("fields", .ref u2), ("net", nv)]) := upd_same
    have uG : (L2.upd HE p (.ins OC dx (putF "net" (nv) [("lines", .ref u), ("fields", .ref u2)]))) u = some (.tup [V.ref t]) := by rw [upd_ne up]; exact uE0
    have tG : (L2.upd HE p (.ins OC dx (putF "net" (nv) [("lines", .ref u), ("fields", .ref u2)]))) t = some (.tup [V.ref fa]) := by rw [upd_ne tp]; exact tE0
    show _
    generalize L2.upd HE p (.ins OC dx (putF "net" (nv) [("lines", .ref u), ("fields", .ref u2)])) = HG at bG pG uG tG ⊢
    have hFG := hF.but hp bG
    refine ⟨_, rfl, p, OC, dx, _, _, rfl, pG, T.clO, T.nO1, lk_hit, u, t, fa, rfl, uG, tG, hFG, fun l3 HI sI el3 => ?_⟩
    refine ⟨l3, _, rfl, .inl ⟨SqL.of el3, fun u3 nu3 => ?_⟩⟩
    have s4u3 := sI.trans (same_new (o := .tup [V.str "a"]) nu3)
    have bJ0 := bG.trans s4u3
    have pJ0 := s4u3 _ _ pG
    have uJ0 := s4u3 _ _ uG
    have tJ0 := s4u3 _ _ tG
    have e3J : (L2.upd HI u3 (.tup [V.str "a"])) u3 = some (.tup [V.str "a"]) := upd_same
    generalize L2.upd HI u3 (.tup [V.str "a"]) = HJ at bJ0 pJ0 uJ0 tJ0 e3J ⊢
    have u3p : u3 ≠ p := fun z => by rw [z, pJ0] at e3J; cases e3J
    refine ⟨_, rfl, p, OC, dx, _, rfl, pJ0, T.clO, T.nO4, (by show 3 < 1000; decide), ?_⟩
    have bL : But p H (L2.upd HJ p (.ins OC dx (putF "holders" (.ref u3) [("lines", .ref u), ("fields", .ref u2), ("net", nv)]))) := bJ0.upd
    have pL : (L2.upd HJ p (.ins OC dx (putF "holders" (.ref u3) [("lines", .ref u), ("fields", .ref u2), ("net", nv)]))) p = some (.ins OC dx [("lines", .ref u), ("fields", .ref u2), ("net", nv), ("holders", .ref u3)]) := upd_same
    have uL : (L2.upd HJ p (.ins OC dx (putF "holders" (.ref u3) [("lines", .ref u), ("fields", .ref u2), ("net", nv)]))) u = some (.tup [V.ref t]) := by rw [upd_ne up]; exact uJ0
    have tL : (L2.upd HJ p (.ins OC dx (putF "holders" (.ref u3) [("lines", .ref u), ("fields", .ref u2), ("net", nv)]))) t = some (.tup [V.ref fa]) := by rw [upd_ne tp]; exact tJ0
    have e3L : (L2.upd HJ p (.ins OC dx (putF "holders" (.ref u3) [("lines", .ref u), ("fields", .ref u2), ("net", nv)]))) u3 = some (.tup [V.str "a"]) := by rw [upd_ne u3p]; exact e3J
    show _
    generalize L2.upd HJ p (.ins OC dx (putF "holders" (.ref u3) [("lines", .ref u), ("fields", .ref u2), ("net", nv)])) = HL at bL pL uL tL e3L ⊢
    have hFL := hF.but hp bL
    refine ⟨_, rfl, p, OC, dx, _, _, rfl, pL, T.clO, T.nO4, (lk_ne (by decide +kernel)).trans ((lk_ne (by decide +kernel)).trans ((lk_ne (by decide +kernel)).trans lk_hit)), u3, rfl, e3L, fun ov HM sM => ?_⟩
    refine ⟨_, rfl, p, OC, dx, _, rfl, sM _ _ pL, T.clO, T.nO5, (by show 4 < 1000; decide), ?_⟩
    exact q _ _ (bL.trans sM).upd upd_same
end
end K02

set_option autoImplicit false
set_option maxErrors 4
/-! C.m(e, .., k = v), m a static method with defaults. -/
namespace Tl
open PySem PySem.Spec PyProof.Rows L2
section
variable {X : Cx} {CX : CXT} {k n : Nat} {f C : Addr} {fd : FuncData} {ps ks : List Str} {sp : Sp} {E : L2.St → XK} {x m : Str} {p1 p2 pos : Pos} {e : Expr} {es : List Expr} {kws : List Keyword} {t tk : TA} {g : List Value → List Value → List Value} {gV : List V → List V → List V}
def tStatK (n m : Nat) (sp : Sp) (gV : List V → List V → List V) (E : L2.St → XK) (t tk : TA) : TE := fun σ H Q => t σ H fun vs H1 => tk σ H1 fun zs H2 => vs.length = n ∧ zs.length = m ∧ sp (gV vs zs) H2 Q (E σ)
theorem pe_statK {pl : Sem Bool} (S : Stat X.K C m f) (F : FnOk X.prog X.w X.K X.mg X.base CX k f fd ps sp) (hr : Room k X.A) (hg : Gl X x) (hm : X.mg x = some (.ref C)) (hb : KBn X.K fd ps n ks g gV) (out : ∀ σ, PassesAt CX X σ (E σ)) (ha : PA X (e :: es) t) (hkw : PK X kws tk)
    (hall : (backToKw pos (keywordEach kws X.env)).all (·.1.isSome) = true := by rfl) (hks : (backToKw pos (keywordEach kws X.env)).filterMap (·.1) = ks := by rfl)
    (hdb : (x == ("__debug__" : Str)) = false := by decide) (hst : starEach (e :: es) X.env = (false, eval e X.env) :: starEach es X.env := by rfl) (hpl : ((backTo pos (starEach (e :: es) X.env)).any (·.1) || (backToKw pos (keywordEach kws X.env)).any (·.1.isNone)) = false := by rfl)
    (ht : eval (.Call (.Attribute (.Name x p1) m p2) (e :: es) kws pos) X.env = (do
      let ov ← eval (.Name x p1) X.env
      standAt p2.atName
      let (f, first) ← holding [ov] (getMethod ov m pl)
      callWith pos f first (backTo pos (starEach (e :: es) X.env)) (backToKw pos (keywordEach kws X.env))) := by rfl) :
    PE X (.Call (.Attribute (.Name x p1) m p2) (e :: es) kws pos) (tStatK n ks.length sp gV E t tk) := by
  refine ⟨fun pins s σ H Q I h => PySem.W.methodCall_KW (pl := pl) (ld_glob I hg hm ?_ hdb) ht⟩
  obtain ⟨mm, fr⟩ := I.fr
  obtain ⟨p, rest, found, rc⟩ := S.fd
  refine PySem.W.method_of_cls fr I.ok.mod.kin S.ga (PySem.W.cls_sm fr I.ok.mod.kin S.ty S.rd found rc rfl ?_)
  refine PySem.W.callWith_KW (first := []) (h₀ := X.base) I.ok.mod.kin S.kp hall (thn (ha.run pos pins _ σ H _ (I.tok _) h) fun us s1 ⟨vs, H1, I1, r, q⟩ => ?_) hpl hst
  refine thn (hkw.run pos pins s1 σ H1 _ I1 q) fun ws s2 ⟨zs, H2, I2, rz, l1, l2, z⟩ => ⟨I2.kIn, ?_⟩
  rw [hks]
  have both := hb.rel r rz
  refine wpAny_call (codeAny_mono (F.run X.A X.stack s2 H2 ⟨us, ks.zip ws⟩ (g us ws) (gV vs zs) Q (E σ) hr I2.env0 (hb.to s2 us ws I2.kIn (r.length.symm.trans l1) (rz.length.symm.trans l2)) both z) fun res s3 y => ?_)
  cases res with
  | error er => exact out σ pins H2 s2 er s3 I2 y
  | ok fl =>
    cases fl with
    | ret u => exact I2.after y
    | next => exact y.elim
    | brk => exact y.elim
    | cont => exact y.elim
end
section
variable {K : PySem.W.Frag} {x qual : Str} {params : Arguments} {body : List Stmt} {scope : Scope} {dvs : List V} {f : Addr} {fd : FuncData} {ps : List Str}
/-- n values are written, then j of the defaults, then the keywords -/
theorem kbn_of (F : FunD K x qual params body scope dvs [] f fd) (n j : Nat) (ks : List Str) (hd : dvs ≠ [])
    (h : ∀ (T : Addr) (kV doc pm : Value) (an : Option Addr) (cdv ct : Value) (us its ws : List Value), us.length = n → its.length = dvs.length → ws.length = ks.length →
      ∃ k, bindArgs (PySem.W.fnOf x qual params body scope (.ref T) kV doc pm an cdv ct) ⟨us, ks.zip ws⟩ = seqItems? (.ref T) >>= k ∧ k (some its.toArray) = pure (ps.zip (us ++ (its.take j ++ ws)))) :
    ∃ its : List Value, KBn K fd ps n ks (fun us ws => us ++ (its.take j ++ ws)) (fun vs zs => vs ++ (dvs.take j ++ zs)) := by
  obtain ⟨oc, od, dV, kV, doc, pm, an, cdv, ct, osl, rfl, lk, hcd, hD, hK⟩ := F.ex
  rcases hD with ⟨e, _⟩ | ⟨_, T, o, its, m, rfl, lT, oT, rT⟩
  · exact absurd e hd
  · have cut : ∀ (i : Nat) {vs : List V} {us : List Value}, Vals vs us → Vals (vs.take i) (us.take i) := by
      intro i
      induction i with
      | zero => exact fun _ => .nil
      | succ i ih =>
        intro vs us r
        cases r with
        | nil => exact .nil
        | cons a b => exact .cons a (ih b)
    refine ⟨its, ⟨fun s us ws X l1 l2 => ?_, fun r1 r2 => r1.append ((cut j rT).append r2)⟩⟩
    obtain ⟨k, e1, e2⟩ := h T kV doc pm an cdv ct us its ws l1 rT.length.symm l2
    refine BindsTo.of_looks fun M => ?_
    rw [e1]
    exact looks_items X lT oT (.of_pure e2)
end
end Tl

set_option autoImplicit false
set_option maxErrors 4
namespace K02
open PySem PySem.Spec PyProof.Rows L2 Tl
/-! ### the law: its parts -/
theorem sorted_sg : ∀ (ns : List Nat), sortedS (ns.map sg) = true → ns.Pairwise (· ≤ ·) := by
  have step : ∀ (ns : List Nat) (m : Nat), risingS (sg m) (ns.map sg) = true → (m :: ns).Pairwise (· ≤ ·) := by
    intro ns
    induction ns with
    | nil => intro m _; exact List.pairwise_singleton _ _
    | cons n ns ih =>
      intro m h
      have h2 : (!ltCps (sg n).cps.toList (sg m).cps.toList && risingS (sg n) (ns.map sg)) = true := h
      obtain ⟨h3, h4⟩ := Bool.and_eq_true_iff.mp h2
      have p := ih n h4
      have h5 : m ≤ n := by
        refine Nat.le_of_not_lt fun z => ?_
        have e : ltCps (sg n).cps.toList (sg m).cps.toList = true := by
          show ltCps [n] [m] = true
          simp [ltCps, z]
        rw [e] at h3
        cases h3
      refine List.pairwise_cons.mpr ⟨fun k hk => ?_, p⟩
      rcases List.mem_cons.mp hk with e | e
      · rw [e]
        exact h5
      · exact Nat.le_trans h5 ((List.pairwise_cons.mp p).1 k e)
  intro ns h
  cases ns with
  | nil => exact List.Pairwise.nil
  | cons n ns => exact step ns n h
theorem norm_lt (l : List Nat) : (norm l).Pairwise (· < ·) := List.Pairwise.filter _ alpha_lt
theorem once_eq {l : List Nat} (hl : ∀ n ∈ l, n ∈ alpha) {ys : List Str} (h1 : sortedS ys = true) (h2 : ys.Nodup) (h3 : ∀ z, z ∈ ys ↔ z ∈ l.map sg) : ys = (norm l).map sg := by
  have e : ∃ ns : List Nat, ys = ns.map sg := by
    have : ∀ zs : List Str, (∀ z ∈ zs, z ∈ l.map sg) → ∃ ns : List Nat, zs = ns.map sg := by
      intro zs
      induction zs with
      | nil => intro _; exact ⟨[], rfl⟩
      | cons z zs ih =>
        intro h
        obtain ⟨ns, e⟩ := ih fun y hy => h y (List.mem_cons_of_mem _ hy)
        obtain ⟨n, _, en⟩ := List.mem_map.mp (h z List.mem_cons_self)
        exact ⟨n :: ns, by rw [e, ← en]; rfl⟩
    exact this ys fun z hz => (h3 z).1 hz
  obtain ⟨ns, rfl⟩ := e
  have nd : ns.Nodup := List.Pairwise.of_map sg (fun _ _ hne e => hne (congrArg sg e)) h2
  have hle := sorted_sg ns h1
  have hlt : ns.Pairwise (· < ·) := by
    refine List.Pairwise.imp₂ (fun a b x y => Nat.lt_of_le_of_ne x y) hle nd
  have e : ns = norm l := le_uniq ns (norm l) hlt (norm_lt l) fun n => by
    rw [mem_norm hl]
    constructor
    · intro z
      obtain ⟨m, hm, e⟩ := List.mem_map.mp ((h3 (sg n)).1 (List.mem_map.mpr ⟨n, z, rfl⟩))
      rw [← sg_inj e]
      exact hm
    · intro z
      obtain ⟨m, hm, e⟩ := List.mem_map.mp ((h3 (sg n)).2 (List.mem_map.mpr ⟨n, z, rfl⟩))
      rw [← sg_inj e]
      exact hm
  rw [e]
section
variable {X : Cx} {CX : CXT} {k : Nat} {C f : Addr} {fd : FuncData} {ps : List Str} {sp : Sp}
/-- a == y, y of any other type -/
def rEqF (K : PySem.W.Frag) (C : Addr) (sp : Sp) : R2 := fun x y H Q => ∃ a dx fs t, x = .ref a ∧ H a = some (.ins C dx fs) ∧ Fo H y t ∧ PySem.W.notFirst K C t = true ∧ sp [.ref a, y] H Q E0
theorem op_eqF (M : OpC X.K C "__eq__" f) (F : FnOk X.prog X.w X.K X.mg X.base CX k f fd ps sp) (hr : Room k X.A) (hb : Binds X.K fd ps []) (hx : Passes CX X E0) : OpR X (compareOp .Eq) (rEqF X.K C sp) := by
  intro pn t τ G x y va vb W I rx ry h
  obtain ⟨a, dx, fs, tv, rfl, ha, fo, nf, q⟩ := h
  have look := fo.looks I ry
  cases rx
  obtain ⟨oa, da, Ja⟩ := inst_of I ha
  obtain ⟨mm, Fm⟩ := I.fr
  have one := run_op F hr hb hx I (.cons (relRef _) (.cons ry .nil)) q
  exact PySem.W.cmp_K (op := .Eq) (Nat.lt_of_succ_lt (hu_of hr)) Fm I.mod.kin Ja look nf M.at_ M.fn (wpAny_mono one (fun _ _ z => back_ok z) fun _ _ z => z)
end
abbrev lN : List Str := ["_law_script", "_law_bag_here", "_law_word", "_law_held", "_law_thing", "_law_field", "_law_sign", "_law_empty"]
abbrev Ds' (FC MC YC OC : Addr) : List Addr := [FC, MC, YC, OC]
structure Parts (P : Program) (w : World) (K : PySem.W.Frag) (mg : Str → Option Value) (base : Heap) (C KC NC FC MC YC OC BS BK : Addr) : Prop where
  bag : Can P w K mg base CX0 "_law_bag" ["_law_script"] 1 (spBag K)
  draw : Can P w K mg base CX0 "_law_draw" ["_law_bag_here", "_law_limit"] 1 spDraw
  letters : Can P w K mg base CX0 "_law_letters" ["_law_bag_here", "_law_many"] 2 spLetters
  bad : Can P w K mg base CX0 "_law_bad" ["_law_bag_here", "_law_word"] 2 (spBad K (Ds' FC MC YC OC) C)
  all : Can P w K mg base CX0 "_law_all_refused" ["_law_held", "_law_thing"] 9 (spAll K (Ds' FC MC YC OC) C)
  ref : Can P w K mg base CX0 "_law_refused" ["_law_made", "_law_one", "_law_other"] 8 (spRefused P w K mg base BS)
  ins : Can P w K mg base (L2N.CX P w) "_law_inside" ["_law_one", "_law_other"] 6 (spInR K C BS)
  lo : Can P w K mg base (L2N.CX P w) "_law_least_of" ["_law_one", "_law_other"] 2 (spLeastN C BS)
  span : Can P w K mg base CX0 "_law_span" ["_law_low", "_law_high"] 9 spLSpan
  mkS : CanMk P w K mg base C
  has : ∃ f fd, Meth K C "__contains__" f ∧ FnOk P w K mg base CX0 2 f fd ["self", "x"] (spHas K C) ∧ Binds K fd ["self", "x"] []
  eq : ∃ f fd, Meth K C "__eq__" f ∧ FnOk P w K mg base CX0 1 f fd ["self", "other"] (spEq K C) ∧ Binds K fd ["self", "other"] []
  sp : ∃ f fd, Meth K C "spelled" f ∧ FnOk P w K mg base CX0 1 f fd ["self"] (spSpelled C) ∧ Binds K fd ["self"] []
  sub : ∃ f fd, Meth K C "__sub__" f ∧ FnOk P w K mg base CX0 5 f fd ["self", "other"] (spSubG C) ∧ Binds K fd ["self", "other"] []
  run : ∃ f fd ds, Stat K KC "run" f ∧ FnOk P w K mg base (L2N.CX P w) 8 f fd ["signs", "least", "most"] (spRun K NC KC BK C) ∧ Binds K fd ["signs", "least", "most"] ds ∧ Vals [.int 1, .int 1] ds
  let_ : ∃ f fd, Stat K C "letters" f ∧ FnOk P w K mg base (L2N.CX P w) 5 f fd [] (spFixed C (spanL 97 122)) ∧ Binds K fd [] []
  cap : ∃ f fd, Stat K C "capitals" f ∧ FnOk P w K mg base (L2N.CX P w) 5 f fd [] (spFixed C (spanL 65 90)) ∧ Binds K fd [] []
  dig : ∃ f fd, Stat K C "digits" f ∧ FnOk P w K mg base (L2N.CX P w) 5 f fd [] (spFixed C (spanL 48 57)) ∧ Binds K fd [] []
  mkF : ∃ f fd, Mk K FC f ∧ FnOk P w K mg base CX0 7 f fd ["self", "name", "kind"] (spFinit FC KC NC) ∧ Binds K fd ["self", "name", "kind"] []
  mkM : ∃ f fd, Mk K MC f ∧ FnOk P w K mg base CX0 2 f fd ["self", "text"] (spMinit MC) ∧ Binds K fd ["self", "text"] []
  mkY : ∃ f fd, Mk K YC f ∧ FnOk P w K mg base CX0 3 f fd ["self", "parts"] (spYinit FC KC NC YC) ∧ Binds K fd ["self", "parts"] []
  mkO : ∃ f fd, Mk K OC f ∧ FnOk P w K mg base CX0 7 f fd ["self", "lines"] (spOinit FC KC NC OC) ∧ Binds K fd ["self", "lines"] []
  first : PySem.W.selfFirst K C = true
  nf : ∀ D ∈ [KC, FC, MC, YC, OC], PySem.W.notFirst K C (.ref D) = true
  nfS : PySem.W.notFirst K C (.type "str") = true
/-- what stands through the law -/
structure Std (C : Addr) (b c h : Addr) (ls : List Nat) (H : Hp) : Prop where
  bag : Bag H b c
  held : Sg C H h (norm ls)
  nd : ls.Nodup
  sub : ∀ n ∈ ls, n ∈ alpha
  few : ls.length ≤ 7
theorem Std.same {C b c h : Addr} {ls : List Nat} {H H' : Hp} (S : Std C b c h ls H) (s : Same H H') : Std C b c h ls H' := ⟨S.bag.same s, S.held.same s, S.nd, S.sub, S.few⟩
theorem Std.txt {C b c h : Addr} {ls : List Nat} {H : Hp} (S : Std C b c h ls H) : SgT ls := ⟨S.sub, Nat.le_trans S.few (by decide)⟩
theorem Sg.kept {C : Addr} {b c h : Addr} {S : List Nat} {H H' : Hp} (s : Sg C H h S) (B : Bag H b c) (k : Kept b c H H') : Sg C H' h S := by
  obtain ⟨⟨dx, e⟩, can⟩ := s
  refine ⟨⟨dx, k _ _ e (fun z => ?_) (fun z => ?_)⟩, can⟩
  · obtain ⟨_, _, _, h1⟩ := B.top
    rw [z, h1] at e
    cases e
  · obtain ⟨_, h1⟩ := B.cells
    rw [z, h1] at e
    cases e
theorem Std.kept {C b c h : Addr} {ls : List Nat} {H H' : Hp} (S : Std C b c h ls H) (k : Kept b c H H') (B : Bag H' b c) : Std C b c h ls H' := ⟨B, S.held.kept S.bag k, S.nd, S.sub, S.few⟩
theorem mk_same {C : Addr} {H H1 : Hp} {r dr : Addr} (h1 : H r = none) (h2 : H dr = none) (k : ∀ x u, (upd (upd H dr (.own r)) r (.ins C dr [])) x = some u → x ≠ r → H1 x = some u) : Same H H1 := fun x u z => k x u (by
  rw [upd_ne (ne_of_none z h1), upd_ne (ne_of_none z h2)]
  exact z) (ne_of_none z h1)
theorem lettersT : tx (spanL 97 122) = "abcdefghijklmnopqrstuvwxyz" := by decide +kernel
theorem capitalsT : tx (spanL 65 90) = "ABCDEFGHIJKLMNOPQRSTUVWXYZ" := by decide +kernel
theorem digitsT : tx (spanL 48 57) = "0123456789" := by decide +kernel
section
variable {P : Program} {w : World} {K : PySem.W.Frag} {mg : Str → Option Value} {base : Heap} {C KC NC FC MC YC OC BS BK : Addr}
set_option maxHeartbeats 40000000 in
theorem law_c {f : Addr} {cdv : Value} {A : Around} {outer : List Env} {s : Shared} {H0 : Hp} {E : XK} (N : Nms mg) (T : Txt K mg C) (Z : Parts P w K mg base C KC NC FC MC YC OC BS BK)
    (hr : Room 9 (A.deeper (envOfC "law" (defScope s_law) s.heap.objs.size f cdv))) : ∃ tt : TS, PSs (cxOf CX0 P w K mg base lN "law" (defScope s_law) f cdv A outer s H0 E).nox ((defBody s_law).drop 7) tt ∧
    ∀ (D : Ends) (a b c h : Addr) (ls : List Nat) (H : Hp) (x4 x5 : Option V), Std C b c h ls H → (∀ H', D.rt (.bl true) H') → tt D [some (.ref a), some (.ref b), some (.str (tx ls)), some (.ref h), x4, x5, none, none] H := by
  obtain ⟨fDr, fdDr, GDr, gDr, kDr, bDr⟩ := Z.draw
  obtain ⟨fSp, fdSp, GSp, gSp, kSp, bSp⟩ := Z.span
  obtain ⟨fRe, fdRe, GRe, gRe, kRe, bRe⟩ := Z.ref
  obtain ⟨fLo, fdLo, GLo, gLo, kLo, bLo⟩ := Z.lo
  obtain ⟨fI, fdI, MI, GI, bI, dI, vI, bI0⟩ := Z.mkS
  obtain ⟨fH, fdH, MH, GH, bH⟩ := Z.has
  obtain ⟨fE, fdE, ME, GE, bE⟩ := Z.eq
  obtain ⟨fS, fdS, MS, GS, bS⟩ := Z.sp
  obtain ⟨fU, fdU, MU, GU, bU⟩ := Z.sub
  obtain ⟨fL1, fdL1, SL1, GL1, bL1⟩ := Z.let_
  obtain ⟨fL2, fdL2, SL2, GL2, bL2⟩ := Z.cap
  obtain ⟨fL3, fdL3, SL3, GL3, bL3⟩ := Z.dig
  have nd := sc_law.nd
  have r1 := hr.mono (show 1 ≤ 9 by decide)
  have r2 := hr.mono (show 2 ≤ 9 by decide)
  have r3 := hr.mono (show 3 ≤ 9 by decide)
  have r5 := hr.mono (show 5 ≤ 9 by decide)
  have r8 := hr.mono (show 8 ≤ 9 by decide)
  refine ⟨_, (pss_cons (ps_for PassesOwn.never rfl (pi_str (pv 2)) (pg_name (i := 6) nd rfl (.inl rfl)) (pss_one (ps_if (PW.pt (pw_or (pt_cmpR (op_notInO (E := E0) (opD MH) GH r2 bH pass0) (pv 6) (pv 3) rfl) (pw_or (pt_cmpR (op_inO (E := E0) (opD MH) GH r2 bH pass0) (pe_op op_add_str (pv 6) (pv 6)) (pv 3) rfl) (pw_or1 (pt_cmpR (op_inO (E := E0) (opD MH) GH r2 bH pass0) pe_str (pv 3) rfl))))) (pss_one (ps_ret pe_bl)) pss_nil)))
      (pss_cons (ps_if (pt_not (pt_val (pe_call GSp hr (by rfl) gSp kSp bSp .nil pass0 (pa_cons (pe_call GDr r1 (by rfl) gDr kDr bDr .nil pass0 (pa_cons (pv 1) (pa_cons pe_int pa_nil))) (pa_cons (pe_call GDr r1 (by rfl) gDr kDr bDr .nil pass0 (pa_cons (pv 1) (pa_cons pe_int pa_nil))) pa_nil))))) (pss_one (ps_ret pe_bl)) pss_nil)
      (pss_cons (ps_if (PW.pt (pw_or (pt_cmpR op_ne (pe_meth0 (pe_stat0 SL1 GL1 r5 (by rfl) T.gC bL1 .nil (L2N.passAt nothingOut)) T.cl MS GS r1 bS .nil pass0) pe_str (nomark _)) (pw_or1 (pt_cmpR op_ne (pe_meth0 (pe_stat0 SL3 GL3 r5 (by rfl) T.gC bL3 .nil (L2N.passAt nothingOut)) T.cl MS GS r1 bS .nil pass0) pe_str (nomark _))))) (pss_one (ps_ret pe_bl)) pss_nil)
      (pss_cons (ps_if (pt_cmpR op_ne (pe_meth0 (pe_stat0 SL2 GL2 r5 (by rfl) T.gC bL2 .nil (L2N.passAt nothingOut)) T.cl MS GS r1 bS .nil pass0) pe_str (nomark _)) (pss_one (ps_ret pe_bl)) pss_nil)
      (pss_cons (ps_for PassesOwn.never rfl (pi_list (pe_lst (pa_cons (pe_make0 MI GI r3 (by rfl) T.gC bI0 vI pass0) (pa_cons (pe_op (op_bin (E := E0) (op := .Sub) Z.first (opD MU) GU r5 bU pass0) (pv 3) (pv 3)) pa_nil)))) (pg_name (i := 7) nd rfl (.inl rfl)) (pss_one (ps_if (pt_not (pt_val (pe_call GRe r8 (by rfl) gRe kRe bRe .nil pass0 (pa_cons (pe_glob (v := .ref fLo) rfl gLo rfl) (pa_cons (pv 7) (pa_cons pe_non pa_nil)))))) (pss_one (ps_ret pe_bl)) pss_nil)))
      (pss_one (ps_ret (pe_and (pe_cmpR op_eq (pe_meth0 (pv 3) T.cl MS GS r1 bS .nil pass0) (pe_joinK (K := K) rfl pe_str (pe_callB (r := rSortedS K) cr_sortedS (by rfl) N.sorted (by decide +kernel) (pa_cons (pe_callTy (call_listTx rfl) (by rfl) N.list (by decide +kernel) (pa_cons (pv 2) pa_nil)) pa_nil))) (nomark _)) (pe_and (pe_cmpR (op_eqO (E := E0) (opD ME) GE r1 bE pass0) (pv 3) (pe_make MI GI r3 (by rfl) T.gC bI .nil pass0 (pa_cons (pv 2) pa_nil)) (nomark _)) (pe_one (pe_not (pe_cmpR (r := rEqF K C (spEq K C)) (op_eqF (opD ME) GE r1 bE pass0) (pv 3) (pv 2) (nomark _))))))))))))), ?_⟩
  intro DD a b c h ls H x4 x5 S q
  -- each sign of the word
  refine seq_go ?_
  refine ⟨_, rfl, tx ls, rfl, ?_⟩
  refine for_it (n := (tx ls).cps.size) walk_str (fun i σ H' => ∃ x6, σ = [some (.ref a), some (.ref b), some (.str (tx ls)), some (.ref h), x4, x5, x6, none] ∧ H' = H) ⟨none, rfl, rfl⟩ (fun _ _ _ _ _ => True.intro) ?_ ?_
  · rintro i x σ H1 H2 hi ⟨x6, rfl, rfl⟩ ⟨rfl, ch, hch, rfl⟩
    obtain ⟨⟨dx, e⟩, can⟩ := id S.held
    have hc : ch ∈ ls := by
      have hch : ls.toArray[i]? = some ch := hch
      rw [List.getElem?_toArray] at hch
      exact List.mem_of_getElem? hch
    have hA := S.sub ch hc
    have hN : ch ∈ norm ls := (mem_norm S.sub ch).mpr hc
    refine name_go ?_
    dsimp only
    refine ⟨_, rfl, _, rfl, h, dx, _, rfl, e, h, _, _, some ch, rfl, S.held, .sign hA, _, rfl, _, rfl, ?_⟩
    have e1 : hasO (norm ls) (some ch) = true := decide_eq_true hN
    rw [e1]
    refine iteF ?_
    refine ⟨_, rfl, _, rfl, sg ch, sg ch, rfl, rfl, line_small (by show 2 ≤ 16777216; decide), _, rfl, h, dx, _, rfl, e, h, _, _, none, rfl, S.held, .txt (l := [ch, ch]) (by show 2 ≤ 2000; decide) (fun n z => by cases z), _, rfl, _, rfl, iteF ?_⟩
    refine ⟨_, rfl, h, dx, _, rfl, e, h, _, _, none, rfl, S.held, .txt (l := []) (by decide) (fun n z => by cases z), _, rfl, _, rfl, iteF ?_⟩
    exact ⟨_, rfl, rfl⟩
  rintro σ H1 ⟨x6, rfl, rfl⟩
  refine ⟨_, rfl, b, c, 94, rfl, S.bag, (by decide), (by decide), fun d1 H2 p1 q1 B2 K2 => ?_⟩
  refine ⟨_, rfl, b, c, 94, rfl, B2, (by decide), (by decide), fun d2 H3 p2 q2 B3 K3 => ?_⟩
  obtain ⟨i1, rfl⟩ : ∃ i : Nat, d1 = i := ⟨d1.toNat, by omega⟩
  obtain ⟨i2, rfl⟩ : ∃ i : Nat, d2 = i := ⟨d2.toNat, by omega⟩
  refine ⟨i1, i2, rfl, by omega, by omega, fun H4 s4 => ⟨_, rfl, iteF ?_⟩⟩
  have SX := ((S.kept K2 B2).kept K3 B3).same s4
  refine ⟨rfl, fun ra Ka ska hra hSa => ?_⟩
  have Sa := SX.same ska
  clear SX
  have SX := Sa
  obtain ⟨⟨dxa, ea⟩, _⟩ := id hSa
  refine ⟨ra, dxa, _, rfl, ea, flS_no _ (by decide), ra, _, rfl, hSa, rfl, _, rfl, ?_⟩
  rw [lettersT]
  refine (if_neg (by simp)).mpr ?_
  refine ⟨rfl, fun rb Kb skb hrb hSb => ?_⟩
  have Sb := SX.same skb
  clear SX
  have SX := Sb
  obtain ⟨⟨dxb, eb⟩, _⟩ := id hSb
  refine ⟨rb, dxb, _, rfl, eb, flS_no _ (by decide), rb, _, rfl, hSb, rfl, _, rfl, ?_⟩
  rw [digitsT]
  refine (if_neg (by simp)).mpr ?_
  refine ⟨rfl, fun rc Kc skc hrc hSc => ?_⟩
  have Sc := SX.same skc
  clear SX
  have SX := Sc
  obtain ⟨⟨dxc, ec⟩, _⟩ := id hSc
  refine ⟨rc, dxc, _, rfl, ec, flS_no _ (by decide), rc, _, rfl, hSc, rfl, _, rfl, ?_⟩
  rw [capitalsT]
  refine (if_neg (by simp)).mpr ?_
  -- the empty sets
  have nilT : SgT [] := ⟨fun n hn => (by cases hn), (by decide)⟩
  intro r1 dr1 z1 z2 z3
  refine ⟨r1, dr1, [], rfl, upd_same, nilT, fun H6 k6 e6 => ⟨rfl, ?_⟩⟩
  have s6 := mk_same z1 z2 k6
  have hS6 : Sg C H6 r1 (norm []) := ⟨⟨dr1, e6⟩, norm_norm []⟩
  have S6 := SX.same s6
  obtain ⟨⟨dx, e⟩, _⟩ := id S6.held
  refine ⟨_, rfl, _, rfl, h, dx, _, h, dx, _, rfl, rfl, e, e, h, h, norm ls, norm ls, rfl, S6.held, S6.held, fun r2 H7 s7 n7 hS7 => ?_⟩
  rw [sub_self] at hS7
  have hS6 : Sg C H6 r1 [] := hS6
  have S7 := S6.same s7
  refine ⟨line_small (by show 2 ≤ 16777216; decide), fun L nL => ?_⟩
  have sL := same_new (o := .lst [V.ref r1, V.ref r2]) nL
  have S8 := S7.same sL
  have eL : (upd H7 L (.lst [V.ref r1, V.ref r2])) L = some (.lst [V.ref r1, V.ref r2]) := upd_same
  have both : ∀ v ∈ [V.ref r1, V.ref r2], ∃ r, v = V.ref r ∧ Sg C (upd H7 L (.lst [V.ref r1, V.ref r2])) r [] := fun v hv => by
    rcases List.mem_cons.mp hv with rfl | hv
    · exact ⟨r1, rfl, hS6.same (s7.trans sL)⟩
    · exact ⟨r2, List.mem_singleton.mp hv, hS7.same sL⟩
  generalize upd H7 L (.lst [V.ref r1, V.ref r2]) = H8 at S8 eL both ⊢
  refine ⟨L, rfl, ⟨_, SqL.of eL⟩, ?_⟩
  refine for_list (K := K) (xs := [V.ref r1, V.ref r2]) (fun i σ H' => ∃ y7, σ = [some (.ref a), some (.ref b), some (.str (tx ls)), some (.ref h), x4, x5, x6, y7] ∧ Same H8 H') ⟨none, rfl, Same.refl _⟩ (fun i σ H' _ hh => by
    obtain ⟨_, _, z⟩ := hh
    exact SqL.of (z _ _ eL)) ?_ ?_
  · rintro i v σ H9 hv ⟨y7, rfl, s9⟩
    obtain ⟨r, rfl, hr9⟩ := both v (List.mem_of_getElem? hv)
    refine name_go ?_
    dsimp only
    refine ⟨_, rfl, fLo, .ref r, .non, fdLo, _, 2, _, rfl, kLo, (by decide), GLo, bLo, (fun Q' E' o => ⟨r, .non, rfl, hr9.same s9, o⟩), fun H10 s10 => ⟨_, rfl, iteF ⟨_, rfl, s9.trans s10⟩⟩⟩
  rintro σ H9 ⟨y7, rfl, s9⟩
  have S9 := S8.same s9
  obtain ⟨⟨dx9, e9⟩, _⟩ := id S9.held
  refine ⟨_, rfl, h, dx9, _, rfl, e9, flS_no _ (by decide), h, _, rfl, S9.held, ?_⟩
  have few := S.few
  refine ⟨⟨_, rfl⟩, _, rfl, ls, rfl, line_small (by omega), fun p hp => ?_⟩
  refine ⟨p, ls.map sg, rfl, SqL.of (by rw [← strs_sg]; exact upd_same), by rw [List.length_map]; omega, fun ys d pm srt hd => ?_⟩
  have ey := once_eq S.sub srt (pm.nodup_iff.mpr (List.Pairwise.map _ (fun x y n z => n (sg_inj z)) S.nd)) fun z => pm.mem_iff
  subst ey
  have sp1 := same_new (o := .lst (ls.map fun n => V.str (sg n))) hp
  have sp2 := same_new (o := .lst (((norm ls).map sg).map V.str)) hd
  refine join_rd (l := norm ls) (by rw [upd_same, ← strs_sg]) (Nat.le_trans (norm_len ls) (by decide)) ?_
  refine ⟨rfl, true, congrArg V.bl (decide_eq_true rfl), iteT ?_⟩
  have S10 := S9.same (sp1.trans sp2)
  refine ⟨_, rfl, _, rfl, ?_⟩
  intro r dr y1 y2 y3
  refine ⟨r, dr, ls, rfl, upd_same, S.txt, fun H11 k11 er => ⟨rfl, ?_⟩⟩
  have s11 := mk_same y1 y2 k11
  have hS11 : Sg C H11 r (norm ls) := ⟨⟨dr, er⟩, norm_norm ls⟩
  have S11 := S10.same s11
  obtain ⟨⟨dx11, e11⟩, _⟩ := id S11.held
  refine ⟨h, dx11, _, r, dr, _, rfl, rfl, e11, er, h, .ref r, norm ls, rfl, S11.held, .inl ⟨r, norm ls, rfl, hS11, true, congrArg V.bl (decide_eq_true rfl), iteT ?_⟩⟩
  exact ⟨_, rfl, _, rfl, h, dx11, _, .type "str", rfl, e11, .str _, Z.nfS, h, _, norm ls, rfl, S11.held, .inr ⟨.type "str", .base (.str _), T.kStr, _, rfl, q _⟩⟩
end
end K02

set_option autoImplicit false
set_option maxErrors 4
namespace K02
open PySem PySem.Spec PyProof.Rows L2 Tl
section
variable {P : Program} {w : World} {K : PySem.W.Frag} {mg : Str → Option Value} {base : Heap} {C KC NC FC MC YC OC BS BK : Addr}
theorem Town.neC (W : Town K mg C KC NC FC MC YC OC) {D : Addr} (h : D ∈ [KC, FC, MC, YC, OC]) : D ≠ C := fun e => by
  have z := (List.nodup_cons.mp W.fam.nd).1
  rw [e] at h
  exact z h
theorem mC : C ∈ [C, KC, FC, MC, YC, OC] := by simp
theorem runA : runOk (some [97]) (boundsOk (.int 1) (.int 1)) = some (tx [97], 1, some 1) := by
  rw [bo_i, if_pos (by decide)]
  rfl
theorem splA {H : Hp} : Spl K C H (.str "a") (some [97]) := by
  have z : Spl K C H (.str (tx [97])) (some (norm [97])) := .txt ⟨fun n hn => by rw [List.mem_singleton.mp hn]; decide +kernel, by decide⟩
  rw [show norm [97] = [97] from by decide +kernel] at z
  exact z
/-- one of the things that are made -/
def Made (K : PySem.W.Frag) (Ds : List Addr) (H : Hp) (v : V) : Prop := ∃ a D dx fs, v = .ref a ∧ H a = some (.ins D dx fs) ∧ D ∈ Ds ∧ Cls K D
theorem Made.same {Ds : List Addr} {H H' : Hp} {v : V} (h : Made K Ds H v) (s : Same H H') : Made K Ds H' v := by
  obtain ⟨a, D, dx, fs, e, h1, h2, h3⟩ := h
  exact ⟨a, D, dx, fs, e, s _ _ h1, h2, h3⟩
theorem Town.six (W : Town K mg C KC NC FC MC YC OC) {D : Addr} (h : D ∈ Ds' FC MC YC OC) : D ∈ [KC, FC, MC, YC, OC] := List.mem_cons_of_mem _ h
theorem Made.thing (W : Town K mg C KC NC FC MC YC OC) {H : Hp} {v : V} (h : Made K (Ds' FC MC YC OC) H v) : Thing K (Ds' FC MC YC OC) C H v := by
  obtain ⟨a, D, dx, fs, rfl, h1, h2, h3⟩ := h
  have m : D ∈ [C, KC, FC, MC, YC, OC] := List.mem_cons_of_mem _ (W.six h2)
  exact thing_own h1 h3 (W.fam.sees D m) h2 (W.no m mC (W.neC (W.six h2))) (W.fam.off D m "str" (by decide))
set_option maxHeartbeats 40000000 in
theorem law_b {f : Addr} {cdv : Value} {A : Around} {outer : List Env} {s : Shared} {H0 : Hp} {E : XK} (N : Nms mg) (T : Txt K mg C) (W : Town K mg C KC NC FC MC YC OC) (Z : Parts P w K mg base C KC NC FC MC YC OC BS BK)
    (hr : Room 9 (A.deeper (envOfC "law" (defScope s_law) s.heap.objs.size f cdv))) {tC : TS} (PC : PSs (cxOf CX0 P w K mg base lN "law" (defScope s_law) f cdv A outer s H0 E).nox ((defBody s_law).drop 7) tC)
    (TC : ∀ (D : Ends) (a b c h : Addr) (ls : List Nat) (H : Hp) (x4 x5 : Option V), Std C b c h ls H → (∀ H', D.rt (.bl true) H') → tC D [some (.ref a), some (.ref b), some (.str (tx ls)), some (.ref h), x4, x5, none, none] H) :
    ∃ tt : TS, PSs (cxOf CX0 P w K mg base lN "law" (defScope s_law) f cdv A outer s H0 E).nox ((defBody s_law).drop 4) tt ∧
    ∀ (D : Ends) (a b c h : Addr) (ls : List Nat) (H : Hp) (x4 : Option V), Std C b c h ls H → (∀ H', D.rt (.bl true) H') → tt D [some (.ref a), some (.ref b), some (.str (tx ls)), some (.ref h), x4, none, none, none] H := by
  obtain ⟨fAl, fdAl, GAl, gAl, kAl, bAl⟩ := Z.all
  obtain ⟨fRe, fdRe, GRe, gRe, kRe, bRe⟩ := Z.ref
  obtain ⟨fIn, fdIn, GIn, gIn, kIn, bIn⟩ := Z.ins
  obtain ⟨fH, fdH, MH, GH, bH⟩ := Z.has
  obtain ⟨fE, fdE, ME, GE, bE⟩ := Z.eq
  obtain ⟨fR, fdR, dsR, SR, GR, bR, vR⟩ := Z.run
  obtain ⟨f1, fd1, M1, G1, b1⟩ := Z.mkF
  obtain ⟨f2, fd2, M2, G2, b2⟩ := Z.mkM
  obtain ⟨f3, fd3, M3, G3, b3⟩ := Z.mkY
  obtain ⟨f4, fd4, M4, G4, b4⟩ := Z.mkO
  have nd := sc_law.nd
  have r1 := hr.mono (show 1 ≤ 9 by decide)
  have r2 := hr.mono (show 2 ≤ 9 by decide)
  have r3 := hr.mono (show 3 ≤ 9 by decide)
  have r4 := hr.mono (show 4 ≤ 9 by decide)
  have r8 := hr.mono (show 8 ≤ 9 by decide)
  refine ⟨_, (pss_cons (ps_set (i := 5) nd rfl (.inl rfl) (pe_make M1 G1 r8 (by rfl) W.gF b1 .nil pass0 (pa_cons pe_str (pa_cons (pe_stat SR GR r8 (by rfl) W.gK bR vR (L2N.passAt nothingOut) (pa_cons pe_str pa_nil)) pa_nil))))
      (pss_cons (ps_for PassesOwn.never rfl (pi_list (pe_lst (pa_cons (pv 5) (pa_cons (pe_make M2 G2 r3 (by rfl) W.gM b2 .nil pass0 (pa_cons pe_str pa_nil)) (pa_cons (pe_make M3 G3 r4 (by rfl) W.gY b3 .nil pass0 (pa_cons (pe_lst (pa_cons (pv 5) pa_nil)) pa_nil)) (pa_cons (pe_make M4 G4 r8 (by rfl) W.gO b4 .nil pass0 (pa_cons (pe_lst (pa_cons (pe_lst (pa_cons (pv 5) pa_nil)) pa_nil)) pa_nil)) pa_nil)))))) (pg_name (i := 4) nd rfl (.inl rfl))
        (pss_one (ps_if (PW.pt (pw_or (pt_not (pt_val (pe_call GAl hr (by rfl) gAl kAl bAl .nil pass0 (pa_cons (pv 3) (pa_cons (pv 4) pa_nil))))) (pw_or (pt_cmpR (op_inO (E := E0) (opD MH) GH r2 bH pass0) (pv 4) (pv 3) rfl) (pw_or1 (pt_cmpR (r := rEqF K C (spEq K C)) (op_eqF (opD ME) GE r1 bE pass0) (pv 3) (pv 4) (nomark _)))))) (pss_one (ps_ret pe_bl)) pss_nil)))
      (pss_cons (ps_if (PW.pt (pw_or (pt_cmpR (op_inO (E := E0) (opD MH) GH r2 bH pass0) (pe_stat SR GR r8 (by rfl) W.gK bR vR (L2N.passAt nothingOut) (pa_cons pe_str pa_nil)) (pv 3) rfl) (pw_or (pt_cmpR (r := rEqF K C (spEq K C)) (op_eqF (opD ME) GE r1 bE pass0) (pv 3) (pe_stat SR GR r8 (by rfl) W.gK bR vR (L2N.passAt nothingOut) (pa_cons pe_str pa_nil)) (nomark _)) (pw_or1 (pt_not (pt_val (pe_call GRe r8 (by rfl) gRe kRe bRe .nil pass0 (pa_cons (pe_glob (v := .ref fIn) rfl gIn rfl) (pa_cons (pv 3) (pa_cons (pe_stat SR GR r8 (by rfl) W.gK bR vR (L2N.passAt nothingOut) (pa_cons pe_str pa_nil)) pa_nil)))))))))) (pss_one (ps_ret pe_bl)) pss_nil)
      PC))), ?_⟩
  intro DD a b c h ls H x4 S q
  -- the field
  refine ⟨.str "a", .int 1, .int 1, some [97], .int 1, .int 1, rfl, splA, rfl, rfl, (fun z => by rw [runA] at z; cases z), fun r_k er_k k H1 s1 kn_k => ?_⟩
  rw [runA] at er_k
  cases er_k
  have ka : KindAt KC NC H1 k rowA := kn_k.at
  intro fa dfa z1 z2 z3
  have far := mk_same (C := FC) z1 z2 (H1 := upd (upd H1 dfa (.own fa)) fa (.ins FC dfa [])) fun _ _ z _ => z
  refine ⟨fa, dfa, k, rfl, upd_same, ka.same far, fun H2 k2 e2 => ⟨rfl, ?_⟩⟩
  have s2 := mk_same z1 z2 k2
  have F2 : FldAt FC KC NC H2 fa := ⟨dfa, k, e2, ka.same s2⟩
  have S2 := (S.same s1).same s2
  refine name_go ?_
  dsimp only
  -- the items
  refine ⟨_, rfl, ?_⟩
  intro m dm y1 y2 y3
  refine ⟨m, dm, rfl, upd_same, fun H3 k3 e3 => ⟨rfl, ?_⟩⟩
  have s3 := mk_same y1 y2 k3
  refine ⟨_, rfl, line_small (by show 1 ≤ 16777216; decide), fun L0 n0 => ?_⟩
  have s4 := same_new (o := .lst [V.ref fa]) n0
  have F4 := (F2.same s3).same s4
  have eL0 : (upd H3 L0 (.lst [V.ref fa])) L0 = some (.lst [V.ref fa]) := upd_same
  have e3' := s4 _ _ e3
  generalize upd H3 L0 (.lst [V.ref fa]) = H4 at s4 F4 eL0 e3' ⊢
  intro y dy w1 w2 w3
  have farY := mk_same (C := YC) w1 w2 (H1 := upd (upd H4 dy (.own y)) y (.ins YC dy [])) fun _ _ z _ => z
  refine ⟨y, dy, L0, fa, rfl, upd_same, farY _ _ eL0, F4.same farY, fun fy H5 k5 e5 => ⟨rfl, ?_⟩⟩
  have s5 := mk_same w1 w2 k5
  refine ⟨_, rfl, line_small (by show 1 ≤ 16777216; decide), fun L1 n1 => ⟨line_small (by show 1 ≤ 16777216; decide), fun L2 n2 => ?_⟩⟩
  have s6 := (same_new (o := .lst [V.ref fa]) n1).trans (same_new (o := .lst [V.ref L1]) n2)
  have eL1 : (upd (upd H5 L1 (.lst [V.ref fa])) L2 (.lst [V.ref L1])) L1 = some (.lst [V.ref fa]) := same_new n2 _ _ upd_same
  have eL2 : (upd (upd H5 L1 (.lst [V.ref fa])) L2 (.lst [V.ref L1])) L2 = some (.lst [V.ref L1]) := upd_same
  generalize upd (upd H5 L1 (.lst [V.ref fa])) L2 (.lst [V.ref L1]) = H6 at s6 eL1 eL2 ⊢
  have F6 := (F4.same s5).same s6
  intro o do_ v1 v2 v3
  have farO := mk_same (C := OC) v1 v2 (H1 := upd (upd H6 do_ (.own o)) o (.ins OC do_ [])) fun _ _ z _ => z
  refine ⟨o, do_, L2, L1, fa, rfl, upd_same, farO _ _ eL2, farO _ _ eL1, F6.same farO, fun fo H7 k7 e7 => ⟨rfl, ?_⟩⟩
  have s7 := mk_same v1 v2 k7
  refine ⟨line_small (by show 4 ≤ 16777216; decide), fun TL nT => ?_⟩
  have s8 := same_new (o := .lst [V.ref fa, V.ref m, V.ref y, V.ref o]) nT
  have sAll := (((s3.trans s4).trans s5).trans s6).trans (s7.trans s8)
  have S8 := S2.same sAll
  have all : ∀ v ∈ [V.ref fa, V.ref m, V.ref y, V.ref o], Made K (Ds' FC MC YC OC) (upd H7 TL (.lst [V.ref fa, V.ref m, V.ref y, V.ref o])) v := fun v hv => by
    rcases List.mem_cons.mp hv with rfl | hv
    · exact ⟨fa, FC, dfa, _, rfl, sAll _ _ e2, by simp, W.clF⟩
    rcases List.mem_cons.mp hv with rfl | hv
    · exact ⟨m, MC, dm, _, rfl, (s5.trans (s6.trans (s7.trans s8))) _ _ e3', by simp, W.clM⟩
    rcases List.mem_cons.mp hv with rfl | hv
    · exact ⟨y, YC, dy, _, rfl, (s6.trans (s7.trans s8)) _ _ e5, by simp, W.clY⟩
    rw [List.mem_singleton.mp hv]
    exact ⟨o, OC, do_, _, rfl, s8 _ _ e7, by simp, W.clO⟩
  have eT : (upd H7 TL (.lst [V.ref fa, V.ref m, V.ref y, V.ref o])) TL = some (.lst [V.ref fa, V.ref m, V.ref y, V.ref o]) := upd_same
  generalize upd H7 TL (.lst [V.ref fa, V.ref m, V.ref y, V.ref o]) = H8 at S8 all eT ⊢
  refine ⟨TL, rfl, ⟨_, SqL.of eT⟩, ?_⟩
  refine for_list (K := K) (xs := [V.ref fa, V.ref m, V.ref y, V.ref o]) (fun i σ H' => ∃ y4, σ = [some (.ref a), some (.ref b), some (.str (tx ls)), some (.ref h), y4, some (.ref fa), none, none] ∧ Same H8 H') ⟨x4, rfl, Same.refl _⟩ (fun i σ H' _ hh => by
    obtain ⟨_, _, z⟩ := hh
    exact SqL.of (z _ _ eT)) ?_ ?_
  · rintro i v σ H9 hv ⟨y4, rfl, s9⟩
    have md := (all v (List.mem_of_getElem? hv)).same s9
    have S9 := S8.same s9
    refine name_go ?_
    dsimp only
    refine ⟨_, rfl, _, rfl, h, norm ls, v, rfl, S9.held, md.thing W, fun H10 s10 => ⟨_, rfl, iteF ?_⟩⟩
    have md2 := md.same s10
    have S10 := S9.same s10
    obtain ⟨⟨dh, eh⟩, _⟩ := id S10.held
    refine ⟨_, rfl, _, rfl, h, dh, _, rfl, eh, h, v, _, none, rfl, S10.held, (md2.thing W).ask, _, rfl, _, rfl, iteF ?_⟩
    obtain ⟨u, D, du, fu, rfl, hu1, hu2, hu3⟩ := id md2
    have m6 : D ∈ [C, KC, FC, MC, YC, OC] := List.mem_cons_of_mem _ (W.six hu2)
    refine ⟨_, rfl, _, rfl, h, dh, _, .ref D, rfl, eh, .ins hu1, Z.nf D (W.six hu2), h, _, norm ls, rfl, S10.held, .inr ⟨.ref D, (W.fam.sees D m6).ty hu3 hu1, W.no m6 mC (W.neC (W.six hu2)), _, rfl, iteF ?_⟩⟩
    exact ⟨_, rfl, s9.trans s10⟩
  rintro σ H9 ⟨y4, rfl, s9⟩
  have S9 := S8.same s9
  have nK : PySem.W.kitOne K (.ref KC) (.ref C) = some false := W.no mK mC (W.neC (by simp))
  have nKs : PySem.W.kitOne K (.ref KC) (.type "str") = some false := W.fam.off KC mK "str" (by decide)
  have tyK : ∀ {Hx : Hp} {kk : Addr}, KindAt KC NC Hx kk rowA → ∃ dk fs, Hx kk = some (.ins KC dk fs) ∧ TyX K Hx (.ref kk) (.ref KC) := fun {Hx kk} hk => by
    obtain ⟨dk, t, n, rs, h1, _⟩ := hk
    exact ⟨dk, _, h1, (W.fam.sees KC mK).ty W.kd.cl h1⟩
  -- a kind
  refine ⟨.str "a", .int 1, .int 1, some [97], .int 1, .int 1, rfl, splA, rfl, rfl, (fun z => by rw [runA] at z; cases z), fun r_ka1 er_ka1 ka1 H10 s10 kn_ka1 => ?_⟩
  rw [runA] at er_ka1
  cases er_ka1
  have kA : KindAt KC NC H10 ka1 rowA := kn_ka1.at
  obtain ⟨dk1, fk1, hk1, ty1⟩ := tyK kA
  have S10 := S9.same s10
  obtain ⟨⟨dh, eh⟩, _⟩ := id S10.held
  refine ⟨_, rfl, h, dh, _, rfl, eh, h, .ref ka1, _, none, rfl, S10.held, .off ty1 nKs, _, rfl, _, rfl, iteF ?_⟩
  refine ⟨_, rfl, ?_⟩
  refine ⟨.str "a", .int 1, .int 1, some [97], .int 1, .int 1, rfl, splA, rfl, rfl, (fun z => by rw [runA] at z; cases z), fun r_ka2 er_ka2 ka2 H11 s11 kn_ka2 => ?_⟩
  rw [runA] at er_ka2
  cases er_ka2
  have kB : KindAt KC NC H11 ka2 rowA := kn_ka2.at
  obtain ⟨dk2, fk2, hk2, ty2⟩ := tyK kB
  have S11 := S10.same s11
  refine ⟨h, dh, _, .ref KC, rfl, s11 _ _ eh, .ins hk2, Z.nf KC (by simp), h, _, norm ls, rfl, S11.held, .inr ⟨.ref KC, ty2, nK, _, rfl, iteF ?_⟩⟩
  refine ⟨_, rfl, ?_⟩
  refine ⟨.str "a", .int 1, .int 1, some [97], .int 1, .int 1, rfl, splA, rfl, rfl, (fun z => by rw [runA] at z; cases z), fun r_ka3 er_ka3 ka3 H12 s12 kn_ka3 => ?_⟩
  rw [runA] at er_ka3
  cases er_ka3
  have kC : KindAt KC NC H12 ka3 rowA := kn_ka3.at
  obtain ⟨dk3, fk3, hk3, ty3⟩ := tyK kC
  have S12 := S11.same s12
  refine ⟨fIn, .ref h, .ref ka3, fdIn, _, 6, _, rfl, kIn, (by decide), GIn, bIn, (fun Q' E' oo => ⟨h, norm ls, .ref ka3, rfl, S12.held, .off ty3 nK nKs, oo⟩), fun H13 s13 => ⟨_, rfl, iteF ?_⟩⟩
  exact TC _ a b c h ls H13 _ _ (S12.same s13) q
def spLaw (K : PySem.W.Frag) : Sp := fun vs H Q _ => ∃ (a : Addr) (ns : List Int), vs = [.ref a] ∧ SqL K H a (ns.map V.int) ∧ ns.length ≤ 63 ∧ ∀ H', Q (.bl true) H'
set_option maxHeartbeats 40000000 in
theorem ok_law {f : Addr} {fd : FuncData} (F : FnP K "law" "law" s_law f fd) (N : Nms mg) (T : Txt K mg C) (W : Town K mg C KC NC FC MC YC OC) (Z : Parts P w K mg base C KC NC FC MC YC OC BS BK) : FnOk P w K mg base CX0 10 f fd ["_law_script"] (spLaw K) := by
  refine F.ok sc_law (fun vs H Q E h => ?_) (fun cdv A outer s H vs Q E hr h => ?_)
  · obtain ⟨a, ns, rfl, _⟩ := h
    rfl
  obtain ⟨tC, PC, TC⟩ := law_c (f := f) (cdv := cdv) (A := A) (outer := outer) (s := s) (H0 := H) (E := E) N T Z hr
  obtain ⟨tB, PB, TB⟩ := law_b N T W Z hr PC TC
  obtain ⟨fBa, fdBa, GBa, gBa, kBa, bBa⟩ := Z.bag
  obtain ⟨fDr, fdDr, GDr, gDr, kDr, bDr⟩ := Z.draw
  obtain ⟨fLe, fdLe, GLe, gLe, kLe, bLe⟩ := Z.letters
  obtain ⟨fBd, fdBd, GBd, gBd, kBd, bBd⟩ := Z.bad
  obtain ⟨fAl, fdAl, GAl, gAl, kAl, bAl⟩ := Z.all
  obtain ⟨fI, fdI, MI, GI, bI, dI, vI, bI0⟩ := Z.mkS
  obtain ⟨fH, fdH, MH, GH, bH⟩ := Z.has
  have nd := sc_law.nd
  have r1 := hr.mono (show 1 ≤ 9 by decide)
  have r2 := hr.mono (show 2 ≤ 9 by decide)
  have r3 := hr.mono (show 3 ≤ 9 by decide)
  obtain ⟨a, ns, rfl, hS, hlen, q⟩ := h
  refine ⟨_, PSs.nox (pss_cons (ps_set (i := 1) nd rfl (.inl rfl) (pe_call GBa r1 (by rfl) gBa kBa bBa .nil pass0 (pa_cons (pv 0) pa_nil)))
      (pss_cons (ps_set (i := 2) nd rfl (.inl rfl) (pe_joinK (K := K) rfl pe_str (pe_call GLe r2 (by rfl) gLe kLe bLe .nil pass0 (pa_cons (pv 1) (pa_cons (pe_call GDr r1 (by rfl) gDr kDr bDr .nil pass0 (pa_cons (pv 1) (pa_cons pe_int pa_nil))) pa_nil)))))
      (pss_cons (ps_set (i := 3) nd rfl (.inl rfl) (pe_make MI GI r3 (by rfl) T.gC bI .nil pass0 (pa_cons (pv 2) pa_nil)))
      (pss_cons (ps_for PassesOwn.never rfl (pi_list (pe_call GBd r2 (by rfl) gBd kBd bBd .nil pass0 (pa_cons (pv 1) (pa_cons (pv 2) pa_nil)))) (pg_name (i := 4) nd rfl (.inl rfl))
        (pss_one (ps_if (PW.pt (pw_or (pt_not (pt_val (pe_call GAl hr (by rfl) gAl kAl bAl .nil pass0 (pa_cons (pv 3) (pa_cons (pv 4) pa_nil))))) (pw_or1 (pt_cmpR (op_inO (E := E0) (opD MH) GH r2 bH pass0) (pv 4) (pv 3) rfl)))) (pss_one (ps_ret pe_bl)) pss_nil)))
      PB)))), ?_⟩
  refine ⟨_, rfl, a, ns, rfl, hS, hlen, fun b c H1 hb hc B1 s1 => ?_⟩
  refine name_go ?_
  dsimp only
  refine ⟨⟨_, rfl⟩, _, rfl, _, rfl, b, c, 8, rfl, B1, (by decide), (by decide), fun d H2 d0 d8 B2 K2 => ?_⟩
  refine ⟨b, c, d, rfl, B2, d0, by omega, fun p ls H3 len ndl sub hp ep B3 K3 => ?_⟩
  have few : ls.length ≤ 7 := by omega
  refine join_rd (l := ls) ep (by omega) ?_
  refine name_go ?_
  dsimp only
  refine ⟨_, rfl, ?_⟩
  intro h dh z1 z2 z3
  have txt : SgT ls := ⟨sub, Nat.le_trans few (by decide)⟩
  refine ⟨h, dh, ls, rfl, upd_same, txt, fun H4 k4 e4 => ⟨rfl, ?_⟩⟩
  have s4 := mk_same z1 z2 k4
  have S4 : Std C b c h ls H4 := ⟨B3.same s4, ⟨⟨dh, e4⟩, norm_norm ls⟩, ndl, sub, few⟩
  refine name_go ?_
  dsimp only
  refine ⟨_, rfl, _, rfl, b, c, ls, rfl, S4.bag, txt, few, fun L xs H5 nL eL each B5 K5 => ?_⟩
  have S5 := S4.kept K5 B5
  refine ⟨L, rfl, ⟨_, SqL.of eL⟩, ?_⟩
  refine for_list (K := K) (xs := xs) (fun i σ H' => ∃ y4, σ = [some (.ref a), some (.ref b), some (.str (tx ls)), some (.ref h), y4, none, none, none] ∧ Same H5 H') ⟨none, rfl, Same.refl _⟩ (fun i σ H' _ hh => by
    obtain ⟨_, _, z⟩ := hh
    exact SqL.of (z _ _ eL)) ?_ ?_
  · rintro i v σ H6 hv ⟨y4, rfl, s6⟩
    have th := (each v (List.mem_of_getElem? hv)).same s6
    have S6 := S5.same s6
    refine name_go ?_
    dsimp only
    refine ⟨_, rfl, _, rfl, h, norm ls, v, rfl, S6.held, th, fun H7 s7 => ⟨_, rfl, iteF ?_⟩⟩
    have S7 := S6.same s7
    obtain ⟨⟨dh7, eh7⟩, _⟩ := id S7.held
    refine ⟨_, rfl, _, rfl, h, dh7, _, rfl, eh7, h, v, _, none, rfl, S7.held, (th.same s7).ask, _, rfl, _, rfl, iteF ?_⟩
    exact ⟨_, rfl, s6.trans s7⟩
  rintro σ H6 ⟨y4, rfl, s6⟩
  exact TB _ a b c h ls H6 _ (S5.same s6) q
end
end K02

set_option autoImplicit false
set_option maxErrors 4
namespace K02
open PySem PySem.Spec PyProof.Rows L2 Tl
set_option maxHeartbeats 40000000 in
theorem facts {P : Program} {w : World} {K : PySem.W.Frag} {h : Heap} {mg : Str → Option Value} {f : Addr} (X : K.In h) (G : h.Ns mainGlobals mg) (hfa : mg ("law" : Str) = some (.ref f)) (c : Tl.SaysP fa fn sd pd ex K) :
    ∃ fd : FuncData, (∀ (s : Shared) (v : Value), BindsTo s fd ⟨[v], []⟩ [("_law_script", v)]) ∧ ∀ base : Heap, K.In base → base.Ns mainGlobals mg → FnOk P w K mg base CX0 10 f fd ["_law_script"] (spLaw K) := by
  have c0 := c.s.d
  have hex := c.s.more
  obtain ⟨e_Signs_init_, F_Signs_init_⟩ := c0.def_ 0 (d := d_Signs_init_) rfl
  obtain ⟨e_Signs_or_, F_Signs_or_⟩ := c0.def_ 1 (d := d_Signs_or_) rfl
  obtain ⟨e_Signs_ror_, F_Signs_ror_⟩ := c0.def_ 2 (d := d_Signs_ror_) rfl
  obtain ⟨e_Signs_ior_, F_Signs_ior_⟩ := c0.def_ 3 (d := d_Signs_ior_) rfl
  obtain ⟨e_Signs_and_, F_Signs_and_⟩ := c0.def_ 4 (d := d_Signs_and_) rfl
  obtain ⟨e_Signs_rand_, F_Signs_rand_⟩ := c0.def_ 5 (d := d_Signs_rand_) rfl
  obtain ⟨e_Signs_sub_, F_Signs_sub_⟩ := c0.def_ 6 (d := d_Signs_sub_) rfl
  obtain ⟨e_Signs_rsub_, F_Signs_rsub_⟩ := c0.def_ 7 (d := d_Signs_rsub_) rfl
  obtain ⟨e_Signs_eq_, F_Signs_eq_⟩ := c0.def_ 8 (d := d_Signs_eq_) rfl
  obtain ⟨e_Signs_contains_, F_Signs_contains_⟩ := c0.def_ 9 (d := d_Signs_contains_) rfl
  obtain ⟨e_Signswithin, F_Signswithin⟩ := c0.def_ 10 (d := d_Signswithin) rfl
  obtain ⟨e_Signsleast, F_Signsleast⟩ := c0.def_ 11 (d := d_Signsleast) rfl
  obtain ⟨e_Signsspelled, F_Signsspelled⟩ := c0.def_ 12 (d := d_Signsspelled) rfl
  obtain ⟨e_is_sign, F_is_sign⟩ := c0.def_ 13 (d := d_is_sign) rfl
  obtain ⟨e_is_sign_text, F_is_sign_text⟩ := c0.def_ 14 (d := d_is_sign_text) rfl
  obtain ⟨e_is_signs, F_is_signs⟩ := c0.def_ 15 (d := d_is_signs) rfl
  obtain ⟨e_signs_of, F_signs_of⟩ := c0.def_ 16 (d := d_signs_of) rfl
  obtain ⟨e_kept_signs, F_kept_signs⟩ := c0.def_ 17 (d := d_kept_signs) rfl
  obtain ⟨e_other_signs, F_other_signs⟩ := c0.def_ 18 (d := d_other_signs) rfl
  obtain ⟨e_is_integer, F_is_integer⟩ := c0.def_ 19 (d := d_is_integer) rfl
  obtain ⟨e_is_integer_within, F_is_integer_within⟩ := c0.def_ 20 (d := d_is_integer_within) rfl
  obtain ⟨e_is_row, F_is_row⟩ := c0.def_ 21 (d := d_is_row) rfl
  obtain ⟨e_is_name, F_is_name⟩ := c0.def_ 22 (d := d_is_name) rfl
  obtain ⟨e_Net_init_, F_Net_init_⟩ := c0.def_ 23 (d := d_Net_init_) rfl
  obtain ⟨e_places_by_char, F_places_by_char⟩ := c0.def_ 24 (d := d_places_by_char) rfl
  obtain ⟨e_place_count, F_place_count⟩ := c0.def_ 25 (d := d_place_count) rfl
  obtain ⟨e_run_net, F_run_net⟩ := c0.def_ 26 (d := d_run_net) rfl
  obtain ⟨e_renumbered, F_renumbered⟩ := c0.def_ 27 (d := d_renumbered) rfl
  obtain ⟨e_chained, F_chained⟩ := c0.def_ 28 (d := d_chained) rfl
  obtain ⟨e_side_by_side, F_side_by_side⟩ := c0.def_ 29 (d := d_side_by_side) rfl
  obtain ⟨e_under_each_other, F_under_each_other⟩ := c0.def_ 30 (d := d_under_each_other) rfl
  obtain ⟨e_stand_from, F_stand_from⟩ := c0.def_ 31 (d := d_stand_from) rfl
  obtain ⟨e_stand_after, F_stand_after⟩ := c0.def_ 32 (d := d_stand_after) rfl
  obtain ⟨e_takes, F_takes⟩ := c0.def_ 33 (d := d_takes) rfl
  obtain ⟨e_Kind_init_, F_Kind_init_⟩ := c0.def_ 34 (d := d_Kind_init_) rfl
  obtain ⟨e_are_bounds, F_are_bounds⟩ := c0.def_ 35 (d := d_are_bounds) rfl
  obtain ⟨e_without_repeats, F_without_repeats⟩ := c0.def_ 36 (d := d_without_repeats) rfl
  obtain ⟨e_is_too_large, F_is_too_large⟩ := c0.def_ 37 (d := d_is_too_large) rfl
  obtain ⟨e_alternative_net, F_alternative_net⟩ := c0.def_ 38 (d := d_alternative_net) rfl
  obtain ⟨e_Field_init_, F_Field_init_⟩ := c0.def_ 39 (d := d_Field_init_) rfl
  obtain ⟨e_Mark_init_, F_Mark_init_⟩ := c0.def_ 40 (d := d_Mark_init_) rfl
  obtain ⟨e_Maybe_init_, F_Maybe_init_⟩ := c0.def_ 41 (d := d_Maybe_init_) rfl
  obtain ⟨e_is_field_kind, F_is_field_kind⟩ := c0.def_ 42 (d := d_is_field_kind) rfl
  obtain ⟨e_is_item, F_is_item⟩ := c0.def_ 43 (d := d_is_item) rfl
  obtain ⟨e_has_own_field, F_has_own_field⟩ := c0.def_ 44 (d := d_has_own_field) rfl
  obtain ⟨e_fields_in, F_fields_in⟩ := c0.def_ 45 (d := d_fields_in) rfl
  obtain ⟨e_depth_around, F_depth_around⟩ := c0.def_ 46 (d := d_depth_around) rfl
  obtain ⟨e_item_size, F_item_size⟩ := c0.def_ 47 (d := d_item_size) rfl
  obtain ⟨e_row_size, F_row_size⟩ := c0.def_ 48 (d := d_row_size) rfl
  obtain ⟨e_joined, F_joined⟩ := c0.def_ 49 (d := d_joined) rfl
  obtain ⟨e_check_lines, F_check_lines⟩ := c0.def_ 50 (d := d_check_lines) rfl
  obtain ⟨e_is_item_row, F_is_item_row⟩ := c0.def_ 51 (d := d_is_item_row) rfl
  obtain ⟨e_lines_size, F_lines_size⟩ := c0.def_ 52 (d := d_lines_size) rfl
  obtain ⟨e_lines_net, F_lines_net⟩ := c0.def_ 53 (d := d_lines_net) rfl
  obtain ⟨e_row_net, F_row_net⟩ := c0.def_ 54 (d := d_row_net) rfl
  obtain ⟨e_item_net, F_item_net⟩ := c0.def_ 55 (d := d_item_net) rfl
  obtain ⟨e_lines_holders, F_lines_holders⟩ := c0.def_ 56 (d := d_lines_holders) rfl
  obtain ⟨e_row_holders, F_row_holders⟩ := c0.def_ 57 (d := d_row_holders) rfl
  obtain ⟨e_owner_sets, F_owner_sets⟩ := c0.def_ 58 (d := d_owner_sets) rfl
  obtain ⟨e_Form_init_, F_Form_init_⟩ := c0.def_ 59 (d := d_Form_init_) rfl
  obtain ⟨e_l_bag, F_l_bag⟩ := c0.def_ 60 (d := d_l_bag) rfl
  obtain ⟨e_l_draw, F_l_draw⟩ := c0.def_ 61 (d := d_l_draw) rfl
  obtain ⟨e_l_alphabet, F_l_alphabet⟩ := c0.def_ 62 (d := d_l_alphabet) rfl
  obtain ⟨e_l_letters, F_l_letters⟩ := c0.def_ 63 (d := d_l_letters) rfl
  obtain ⟨e_l_refused, F_l_refused⟩ := c0.def_ 64 (d := d_l_refused) rfl
  obtain ⟨e_l_or, F_l_or⟩ := c0.def_ 65 (d := d_l_or) rfl
  obtain ⟨e_l_and, F_l_and⟩ := c0.def_ 66 (d := d_l_and) rfl
  obtain ⟨e_l_less, F_l_less⟩ := c0.def_ 67 (d := d_l_less) rfl
  obtain ⟨e_l_or_in_place, F_l_or_in_place⟩ := c0.def_ 68 (d := d_l_or_in_place) rfl
  obtain ⟨e_l_new, F_l_new⟩ := c0.def_ 69 (d := d_l_new) rfl
  obtain ⟨e_l_inside, F_l_inside⟩ := c0.def_ 70 (d := d_l_inside) rfl
  obtain ⟨e_l_span_of, F_l_span_of⟩ := c0.def_ 71 (d := d_l_span_of) rfl
  obtain ⟨e_l_least_of, F_l_least_of⟩ := c0.def_ 72 (d := d_l_least_of) rfl
  obtain ⟨e_l_bad, F_l_bad⟩ := c0.def_ 73 (d := d_l_bad) rfl
  obtain ⟨e_l_all_refused, F_l_all_refused⟩ := c0.def_ 74 (d := d_l_all_refused) rfl
  obtain ⟨e_l_span, F_l_span⟩ := c0.def_ 75 (d := d_l_span) rfl
  obtain ⟨e_law, F_law⟩ := c0.def_ 76 (d := d_law) rfl
  obtain ⟨S_span, e_Signsspan, F_Signsspan⟩ := c.s.st ⟨"Signs", "span", d_Signsspan⟩ (List.Mem.head _)
  obtain ⟨S_letters, e_Signsletters, F_Signsletters⟩ := c.s.st ⟨"Signs", "letters", d_Signsletters⟩ (List.Mem.tail _ (List.Mem.head _))
  obtain ⟨S_capitals, e_Signscapitals, F_Signscapitals⟩ := c.s.st ⟨"Signs", "capitals", d_Signscapitals⟩ (List.Mem.tail _ (List.Mem.tail _ (List.Mem.head _)))
  obtain ⟨S_digits, e_Signsdigits, F_Signsdigits⟩ := c.s.st ⟨"Signs", "digits", d_Signsdigits⟩ (List.Mem.tail _ (List.Mem.tail _ (List.Mem.tail _ (List.Mem.head _))))
  obtain ⟨S_run, e_Kindrun, F_Kindrun⟩ := c.s.st ⟨"Kind", "run", d_Kindrun⟩ (List.Mem.tail _ (List.Mem.tail _ (List.Mem.tail _ (List.Mem.tail _ (List.Mem.head _)))))
  obtain ⟨⟨pH, PH⟩, e_Kindhas_empty, F_Kindhas_empty⟩ := c.pr ⟨"Kind", "has_empty", d_Kindhas_empty⟩ List.mem_cons_self
  have e := hfa.symm.trans (He.glo_ok X G (c0.fact 57 (f := .glo "law") rfl))
  cases e
  have b_Signs_or_ := FunD.bindsN (ps := ["self", "other"]) F_Signs_or_ fun _ _ _ _ _ _ us hl => match us, hl with | [_, _], _ => rfl
  have b_Signs_ror_ := FunD.bindsN (ps := ["self", "other"]) F_Signs_ror_ fun _ _ _ _ _ _ us hl => match us, hl with | [_, _], _ => rfl
  have b_Signs_ior_ := FunD.bindsN (ps := ["self", "other"]) F_Signs_ior_ fun _ _ _ _ _ _ us hl => match us, hl with | [_, _], _ => rfl
  have b_Signs_and_ := FunD.bindsN (ps := ["self", "other"]) F_Signs_and_ fun _ _ _ _ _ _ us hl => match us, hl with | [_, _], _ => rfl
  have b_Signs_rand_ := FunD.bindsN (ps := ["self", "other"]) F_Signs_rand_ fun _ _ _ _ _ _ us hl => match us, hl with | [_, _], _ => rfl
  have b_Signs_sub_ := FunD.bindsN (ps := ["self", "other"]) F_Signs_sub_ fun _ _ _ _ _ _ us hl => match us, hl with | [_, _], _ => rfl
  have b_Signs_rsub_ := FunD.bindsN (ps := ["self", "other"]) F_Signs_rsub_ fun _ _ _ _ _ _ us hl => match us, hl with | [_, _], _ => rfl
  have b_Signs_eq_ := FunD.bindsN (ps := ["self", "other"]) F_Signs_eq_ fun _ _ _ _ _ _ us hl => match us, hl with | [_, _], _ => rfl
  have b_Signs_contains_ := FunD.bindsN (ps := ["self", "x"]) F_Signs_contains_ fun _ _ _ _ _ _ us hl => match us, hl with | [_, _], _ => rfl
  have b_Signswithin := FunD.bindsN (ps := ["self", "other"]) F_Signswithin fun _ _ _ _ _ _ us hl => match us, hl with | [_, _], _ => rfl
  have b_Signsleast := FunD.bindsN (ps := ["self"]) F_Signsleast fun _ _ _ _ _ _ us hl => match us, hl with | [_], _ => rfl
  have b_Signsspelled := FunD.bindsN (ps := ["self"]) F_Signsspelled fun _ _ _ _ _ _ us hl => match us, hl with | [_], _ => rfl
  have b_is_sign := FunD.bindsN (ps := ["thing"]) F_is_sign fun _ _ _ _ _ _ us hl => match us, hl with | [_], _ => rfl
  have b_is_sign_text := FunD.bindsN (ps := ["thing"]) F_is_sign_text fun _ _ _ _ _ _ us hl => match us, hl with | [_], _ => rfl
  have b_is_signs := FunD.bindsN (ps := ["thing"]) F_is_signs fun _ _ _ _ _ _ us hl => match us, hl with | [_], _ => rfl
  have b_signs_of := FunD.bindsN (ps := ["thing"]) F_signs_of fun _ _ _ _ _ _ us hl => match us, hl with | [_], _ => rfl
  have b_kept_signs := FunD.bindsN (ps := ["signs", "others"]) F_kept_signs fun _ _ _ _ _ _ us hl => match us, hl with | [_, _], _ => rfl
  have b_other_signs := FunD.bindsN (ps := ["signs", "others"]) F_other_signs fun _ _ _ _ _ _ us hl => match us, hl with | [_, _], _ => rfl
  have b_is_integer := FunD.bindsN (ps := ["thing"]) F_is_integer fun _ _ _ _ _ _ us hl => match us, hl with | [_], _ => rfl
  have b_is_integer_within := FunD.bindsN (ps := ["thing", "low", "high"]) F_is_integer_within fun _ _ _ _ _ _ us hl => match us, hl with | [_, _, _], _ => rfl
  have b_is_row := FunD.bindsN (ps := ["thing"]) F_is_row fun _ _ _ _ _ _ us hl => match us, hl with | [_], _ => rfl
  have b_is_name := FunD.bindsN (ps := ["thing"]) F_is_name fun _ _ _ _ _ _ us hl => match us, hl with | [_], _ => rfl
  have b_Net_init_ := FunD.bindsN (ps := ["self", "chars", "follow", "exits"]) F_Net_init_ fun _ _ _ _ _ _ us hl => match us, hl with | [_, _, _, _], _ => rfl
  have b_places_by_char := FunD.bindsN (ps := ["chars"]) F_places_by_char fun _ _ _ _ _ _ us hl => match us, hl with | [_], _ => rfl
  have b_place_count := FunD.bindsN (ps := ["least", "most"]) F_place_count fun _ _ _ _ _ _ us hl => match us, hl with | [_, _], _ => rfl
  have b_run_net := FunD.bindsN (ps := ["signs", "least", "most"]) F_run_net fun _ _ _ _ _ _ us hl => match us, hl with | [_, _, _], _ => rfl
  have b_renumbered := FunD.bindsN (ps := ["places", "shift"]) F_renumbered fun _ _ _ _ _ _ us hl => match us, hl with | [_, _], _ => rfl
  have b_chained := FunD.bindsN (ps := ["nets"]) F_chained fun _ _ _ _ _ _ us hl => match us, hl with | [_], _ => rfl
  have b_side_by_side := FunD.bindsN (ps := ["nets"]) F_side_by_side fun _ _ _ _ _ _ us hl => match us, hl with | [_], _ => rfl
  have b_under_each_other := FunD.bindsN (ps := ["nets"]) F_under_each_other fun _ _ _ _ _ _ us hl => match us, hl with | [_], _ => rfl
  have b_stand_from := FunD.bindsN (ps := ["net", "start", "text"]) F_stand_from fun _ _ _ _ _ _ us hl => match us, hl with | [_, _, _], _ => rfl
  have b_stand_after := FunD.bindsN (ps := ["net", "text"]) F_stand_after fun _ _ _ _ _ _ us hl => match us, hl with | [_, _], _ => rfl
  have b_takes := FunD.bindsN (ps := ["net", "text"]) F_takes fun _ _ _ _ _ _ us hl => match us, hl with | [_, _], _ => rfl
  have b_Kind_init_ := FunD.bindsN (ps := ["self", "rows"]) F_Kind_init_ fun _ _ _ _ _ _ us hl => match us, hl with | [_, _], _ => rfl
  have b_are_bounds := FunD.bindsN (ps := ["least", "most"]) F_are_bounds fun _ _ _ _ _ _ us hl => match us, hl with | [_, _], _ => rfl
  have b_without_repeats := FunD.bindsN (ps := ["rows"]) F_without_repeats fun _ _ _ _ _ _ us hl => match us, hl with | [_], _ => rfl
  have b_is_too_large := FunD.bindsN (ps := ["rows"]) F_is_too_large fun _ _ _ _ _ _ us hl => match us, hl with | [_], _ => rfl
  have b_alternative_net := FunD.bindsN (ps := ["row"]) F_alternative_net fun _ _ _ _ _ _ us hl => match us, hl with | [_], _ => rfl
  have b_Field_init_ := FunD.bindsN (ps := ["self", "name", "kind"]) F_Field_init_ fun _ _ _ _ _ _ us hl => match us, hl with | [_, _, _], _ => rfl
  have b_Mark_init_ := FunD.bindsN (ps := ["self", "text"]) F_Mark_init_ fun _ _ _ _ _ _ us hl => match us, hl with | [_, _], _ => rfl
  have b_Maybe_init_ := FunD.bindsN (ps := ["self", "parts"]) F_Maybe_init_ fun _ _ _ _ _ _ us hl => match us, hl with | [_, _], _ => rfl
  have b_is_field_kind := FunD.bindsN (ps := ["thing"]) F_is_field_kind fun _ _ _ _ _ _ us hl => match us, hl with | [_], _ => rfl
  have b_is_item := FunD.bindsN (ps := ["thing"]) F_is_item fun _ _ _ _ _ _ us hl => match us, hl with | [_], _ => rfl
  have b_has_own_field := FunD.bindsN (ps := ["row"]) F_has_own_field fun _ _ _ _ _ _ us hl => match us, hl with | [_], _ => rfl
  have b_fields_in := FunD.bindsN (ps := ["row"]) F_fields_in fun _ _ _ _ _ _ us hl => match us, hl with | [_], _ => rfl
  have b_depth_around := FunD.bindsN (ps := ["parts"]) F_depth_around fun _ _ _ _ _ _ us hl => match us, hl with | [_], _ => rfl
  have b_item_size := FunD.bindsN (ps := ["item"]) F_item_size fun _ _ _ _ _ _ us hl => match us, hl with | [_], _ => rfl
  have b_row_size := FunD.bindsN (ps := ["row"]) F_row_size fun _ _ _ _ _ _ us hl => match us, hl with | [_], _ => rfl
  have b_joined := FunD.bindsN (ps := ["row"]) F_joined fun _ _ _ _ _ _ us hl => match us, hl with | [_], _ => rfl
  have b_check_lines := FunD.bindsN (ps := ["lines"]) F_check_lines fun _ _ _ _ _ _ us hl => match us, hl with | [_], _ => rfl
  have b_is_item_row := FunD.bindsN (ps := ["thing"]) F_is_item_row fun _ _ _ _ _ _ us hl => match us, hl with | [_], _ => rfl
  have b_lines_size := FunD.bindsN (ps := ["lines"]) F_lines_size fun _ _ _ _ _ _ us hl => match us, hl with | [_], _ => rfl
  have b_lines_net := FunD.bindsN (ps := ["lines"]) F_lines_net fun _ _ _ _ _ _ us hl => match us, hl with | [_], _ => rfl
  have b_row_net := FunD.bindsN (ps := ["row"]) F_row_net fun _ _ _ _ _ _ us hl => match us, hl with | [_], _ => rfl
  have b_item_net := FunD.bindsN (ps := ["item"]) F_item_net fun _ _ _ _ _ _ us hl => match us, hl with | [_], _ => rfl
  have b_lines_holders := FunD.bindsN (ps := ["lines"]) F_lines_holders fun _ _ _ _ _ _ us hl => match us, hl with | [_], _ => rfl
  have b_row_holders := FunD.bindsN (ps := ["row"]) F_row_holders fun _ _ _ _ _ _ us hl => match us, hl with | [_], _ => rfl
  have b_owner_sets := FunD.bindsN (ps := ["holders"]) F_owner_sets fun _ _ _ _ _ _ us hl => match us, hl with | [_], _ => rfl
  have b_Form_init_ := FunD.bindsN (ps := ["self", "lines"]) F_Form_init_ fun _ _ _ _ _ _ us hl => match us, hl with | [_, _], _ => rfl
  have b_l_bag := FunD.bindsN (ps := ["_law_script"]) F_l_bag fun _ _ _ _ _ _ us hl => match us, hl with | [_], _ => rfl
  have b_l_draw := FunD.bindsN (ps := ["_law_bag_here", "_law_limit"]) F_l_draw fun _ _ _ _ _ _ us hl => match us, hl with | [_, _], _ => rfl
  have b_l_alphabet := FunD.bindsN (ps := []) F_l_alphabet fun _ _ _ _ _ _ us hl => match us, hl with | [], _ => rfl
  have b_l_letters := FunD.bindsN (ps := ["_law_bag_here", "_law_many"]) F_l_letters fun _ _ _ _ _ _ us hl => match us, hl with | [_, _], _ => rfl
  have b_l_refused := FunD.bindsN (ps := ["_law_made", "_law_one", "_law_other"]) F_l_refused fun _ _ _ _ _ _ us hl => match us, hl with | [_, _, _], _ => rfl
  have b_l_or := FunD.bindsN (ps := ["_law_one", "_law_other"]) F_l_or fun _ _ _ _ _ _ us hl => match us, hl with | [_, _], _ => rfl
  have b_l_and := FunD.bindsN (ps := ["_law_one", "_law_other"]) F_l_and fun _ _ _ _ _ _ us hl => match us, hl with | [_, _], _ => rfl
  have b_l_less := FunD.bindsN (ps := ["_law_one", "_law_other"]) F_l_less fun _ _ _ _ _ _ us hl => match us, hl with | [_, _], _ => rfl
  have b_l_or_in_place := FunD.bindsN (ps := ["_law_one", "_law_other"]) F_l_or_in_place fun _ _ _ _ _ _ us hl => match us, hl with | [_, _], _ => rfl
  have b_l_new := FunD.bindsN (ps := ["_law_one", "_law_other"]) F_l_new fun _ _ _ _ _ _ us hl => match us, hl with | [_, _], _ => rfl
  have b_l_inside := FunD.bindsN (ps := ["_law_one", "_law_other"]) F_l_inside fun _ _ _ _ _ _ us hl => match us, hl with | [_, _], _ => rfl
  have b_l_span_of := FunD.bindsN (ps := ["_law_one", "_law_other"]) F_l_span_of fun _ _ _ _ _ _ us hl => match us, hl with | [_, _], _ => rfl
  have b_l_least_of := FunD.bindsN (ps := ["_law_one", "_law_other"]) F_l_least_of fun _ _ _ _ _ _ us hl => match us, hl with | [_, _], _ => rfl
  have b_l_bad := FunD.bindsN (ps := ["_law_bag_here", "_law_word"]) F_l_bad fun _ _ _ _ _ _ us hl => match us, hl with | [_, _], _ => rfl
  have b_l_all_refused := FunD.bindsN (ps := ["_law_held", "_law_thing"]) F_l_all_refused fun _ _ _ _ _ _ us hl => match us, hl with | [_, _], _ => rfl
  have b_l_span := FunD.bindsN (ps := ["_law_low", "_law_high"]) F_l_span fun _ _ _ _ _ _ us hl => match us, hl with | [_, _], _ => rfl
  have b_Kindhas_empty := FunD.bindsN (ps := ["self"]) F_Kindhas_empty fun _ _ _ _ _ _ us hl => match us, hl with | [_], _ => rfl
  have b_Signsspan := FunD.bindsN (ps := ["first", "last"]) F_Signsspan fun _ _ _ _ _ _ us hl => match us, hl with | [_, _], _ => rfl
  have b_Signsletters := FunD.bindsN (ps := []) F_Signsletters fun _ _ _ _ _ _ us hl => match us, hl with | [], _ => rfl
  have b_Signscapitals := FunD.bindsN (ps := []) F_Signscapitals fun _ _ _ _ _ _ us hl => match us, hl with | [], _ => rfl
  have b_Signsdigits := FunD.bindsN (ps := []) F_Signsdigits fun _ _ _ _ _ _ us hl => match us, hl with | [], _ => rfl
  have bI1 := FunD.binds1 (ps := ["self", "text"]) F_Signs_init_ 2 1 (by intro z; cases z) rfl fun _ _ _ _ _ _ _ us its hu hi => match us, its, hu, hi with | [_, _], [_], _, _ => ⟨_, rfl, rfl⟩
  have bI0 := FunD.binds1 (ps := ["self", "text"]) F_Signs_init_ 1 0 (by intro z; cases z) rfl fun _ _ _ _ _ _ _ us its hu hi => match us, its, hu, hi with | [_], [_], _, _ => ⟨_, rfl, rfl⟩
  have bR1 := FunD.binds1 (ps := ["signs", "least", "most"]) F_Kindrun 1 0 (by intro z; cases z) rfl fun _ _ _ _ _ _ _ us its hu hi => match us, its, hu, hi with | [_], [_, _], _, _ => ⟨_, rfl, rfl⟩
  obtain ⟨x0, x1⟩ := He.ba hex
  obtain ⟨xf, xo⟩ := He.ba x0
  obtain ⟨xo1, xsub⟩ := He.ba xo
  obtain ⟨xor_, xand⟩ := He.ba xo1
  obtain ⟨xe, xn⟩ := He.ba x1
  obtain ⟨xn1, xn2⟩ := He.ba xn
  have Fm := famB_ok xf
  have FOr := forB_ok xor_
  have FAnd := forB_ok xand
  have FSub := forB_ok xsub
  have Er := errAB_ok xe
  have N : Nms mg := ⟨(He.free_ok X G (c0.fact 120 (f := .free "isinstance") rfl)), (He.free_ok X G (c0.fact 121 (f := .free "int") rfl)), (He.free_ok X G (c0.fact 122 (f := .free "bool") rfl)), (He.free_ok X G (c0.fact 123 (f := .free "list") rfl)), (He.free_ok X G (c0.fact 124 (f := .free "tuple") rfl)), (He.free_ok X G (c0.fact 125 (f := .free "str") rfl)), (He.free_ok X G (c0.fact 126 (f := .free "all") rfl)), (He.free_ok X G (c0.fact 127 (f := .free "any") rfl)), (He.free_ok X G (c0.fact 128 (f := .free "sum") rfl)), (He.free_ok X G (c0.fact 129 (f := .free "len") rfl)), (He.free_ok X G (c0.fact 130 (f := .free "enumerate") rfl)), (He.free_ok X G (c0.fact 131 (f := .free "range") rfl)), (He.free_ok X G (c0.fact 132 (f := .free "max") rfl)), (He.free_ok X G (c0.fact 133 (f := .free "sorted") rfl))⟩
  have Co : Cons mg := ⟨(He.int_ok X G (c0.fact 135 (f := .int "START" 1) rfl)), (He.int_ok X G (c0.fact 136 (f := .int "MOST_ALTERNATIVES" 20) rfl)), (He.int_ok X G (c0.fact 137 (f := .int "MOST_RUNS" 20) rfl)), (He.int_ok X G (c0.fact 138 (f := .int "MOST_PLACES_kinds" 120) rfl)), (He.int_ok X G (c0.fact 139 (f := .int "HIGHEST_BOUND" 40) rfl))⟩
  obtain ⟨tS, gS⟩ := He.str_ok X G (c0.fact 146 (f := .str "SIGNS" " !\"#$&'()*+,-./0123456789:;<=>?@ABCDEFGHIJKLMNOPQRSTUVWXYZ[\\]^_`abcdefghijklmnopqrstuvwxyz{|}~") rfl)
  have eS : mg ("SIGNS" : Str) = some (.str (tx alpha) tS) := gS.trans (congrArg (fun z => some (Value.str z tS)) (by decide +kernel))
  have SeS := Fm.sees (He.ga K "Signs") (by simp)
  have own : PySem.W.kitOne K (.ref (He.ga K "Signs")) (.ref (He.ga K "Signs")) = some true := by
    rw [Fm.kit (He.ga K "Signs") (by simp) (He.ga K "Signs") (by simp), decide_eq_true rfl]
  have T : Txt K mg (He.ga K "Signs") := { cl := (He.cls_ok (c0.fact 59 (f := .cls "Signs") rfl)), nS := (He.noat_ok (c0.fact 74 (f := .noat "Signs" "signs") rfl)), gC := (He.glo_ok X G (c0.fact 58 (f := .glo "Signs") rfl)), sgn := ⟨tS, eS⟩, kStr := Fm.no (He.ga K "Signs") (by simp) "str" (by decide), kOwn := own, sStr := Fm.off (He.ga K "Signs") (by simp) "str" (by decide), c1 := SeS.c1, c2 := SeS.c2, c3 := SeS.c3, c4 := SeS.c4 }
  have TN : NetC K (He.ga K "Net") := ⟨(He.cls_ok (c0.fact 76 (f := .cls "Net") rfl)), (He.noat_ok (c0.fact 79 (f := .noat "Net" "chars") rfl)), (He.noat_ok (c0.fact 80 (f := .noat "Net" "follow") rfl)), (He.noat_ok (c0.fact 81 (f := .noat "Net" "exits") rfl)), (He.noat_ok (c0.fact 82 (f := .noat "Net" "stands_for") rfl))⟩
  have TK : KindC K (He.ga K "Kind") := ⟨(He.cls_ok (c0.fact 84 (f := .cls "Kind") rfl)), (He.noat_ok (c0.fact 87 (f := .noat "Kind" "rows") rfl)), (He.noat_ok (c0.fact 88 (f := .noat "Kind" "net") rfl))⟩
  have gK := (He.glo_ok X G (c0.fact 83 (f := .glo "Kind") rfl))
  have PB : Plain K mg "BadKind" (He.ga K "BadKind") := by
    obtain ⟨z1, z2, z3, z4⟩ := He.exc_ok (c0.fact 117 (f := .exc "BadKind") rfl)
    exact ⟨(He.glo_ok X G (c0.fact 116 (f := .glo "BadKind") rfl)), z1, z2, z3, z4⟩
  have PS_ : Plain K mg "BadSigns" (He.ga K "BadSigns") := by
    obtain ⟨z1, z2, z3, z4⟩ := He.exc_ok (c0.fact 119 (f := .exc "BadSigns") rfl)
    exact ⟨(He.glo_ok X G (c0.fact 118 (f := .glo "BadSigns") rfl)), z1, z2, z3, z4⟩
  have W : Town K mg (He.ga K "Signs") (He.ga K "Kind") (He.ga K "Net") (He.ga K "Field") (He.ga K "Mark") (He.ga K "Maybe") (He.ga K "Form") := { fam := Fm, kd := TK, net := TN, gK := gK, clF := (He.cls_ok (c0.fact 90 (f := .cls "Field") rfl)), clM := (He.cls_ok (c0.fact 96 (f := .cls "Mark") rfl)), clY := (He.cls_ok (c0.fact 101 (f := .cls "Maybe") rfl)), clO := (He.cls_ok (c0.fact 106 (f := .cls "Form") rfl)), gF := (He.glo_ok X G (c0.fact 89 (f := .glo "Field") rfl)), gM := (He.glo_ok X G (c0.fact 95 (f := .glo "Mark") rfl)), gY := (He.glo_ok X G (c0.fact 100 (f := .glo "Maybe") rfl)), gO := (He.glo_ok X G (c0.fact 105 (f := .glo "Form") rfl)), nF1 := (He.noat_ok (c0.fact 93 (f := .noat "Field" "name") rfl)), nF2 := (He.noat_ok (c0.fact 94 (f := .noat "Field" "kind") rfl)), nM := (He.noat_ok (c0.fact 99 (f := .noat "Mark" "text") rfl)), nY := (He.noat_ok (c0.fact 104 (f := .noat "Maybe" "parts") rfl)), nO1 := (He.noat_ok (c0.fact 109 (f := .noat "Form" "lines") rfl)), nO2 := (He.noat_ok (c0.fact 110 (f := .noat "Form" "fields") rfl)), nO3 := (He.noat_ok (c0.fact 111 (f := .noat "Form" "net") rfl)), nO4 := (He.noat_ok (c0.fact 112 (f := .noat "Form" "holders") rfl)), nO5 := (He.noat_ok (c0.fact 113 (f := .noat "Form" "owner_sets") rfl)), name := (He.int_ok X G (c0.fact 140 (f := .int "LONGEST_NAME" 12) rfl)), mark := (He.int_ok X G (c0.fact 141 (f := .int "LONGEST_MARK" 200) rfl)), deep := (He.int_ok X G (c0.fact 142 (f := .int "DEEPEST_GROUP" 3) rfl)), size := (He.int_ok X G (c0.fact 143 (f := .int "MOST_PLACES_items" 200) rfl)), lines := (He.int_ok X G (c0.fact 144 (f := .int "MOST_LINES" 10) rfl)), fields := (He.int_ok X G (c0.fact 145 (f := .int "MOST_FIELDS" 12) rfl)) }
  have En : ErrN mg (He.ga K "BadSigns") (He.ga K "BadText") (He.ga K "BadKind") (He.ga K "TownError") := ⟨(He.glo_ok X G (c0.fact 118 (f := .glo "BadSigns") rfl)), (He.glo_ok X G (c0.fact 115 (f := .glo "BadText") rfl)), (He.glo_ok X G (c0.fact 116 (f := .glo "BadKind") rfl)), (He.glo_ok X G (c0.fact 114 (f := .glo "TownError") rfl)), (He.free_ok X G (c0.fact 147 (f := .free "ValueError") rfl))⟩
  have nm := (He.free_ok X G (c0.fact 134 (f := .free "min") rfl))
  refine ⟨e_law, fun s v => FunD.bindsA (ps := ["_law_script"]) F_law (fun _ _ _ _ _ _ us hl => match us, hl with | [_], _ => rfl) s [v] rfl, fun base _ _ => ?_⟩
  have c_is_integer : Can P w K mg base CX0 "is_integer" ["thing"] 1 (spIsInt K) := ⟨_, e_is_integer, ok_is_integer F_is_integer N, (He.glo_ok X G (c0.fact 6 (f := .glo "is_integer") rfl)), F_is_integer.kp, b_is_integer⟩
  have c_is_integer_within : Can P w K mg base CX0 "is_integer_within" ["thing", "low", "high"] 2 (spWithin K) := ⟨_, e_is_integer_within, ok_within F_is_integer_within c_is_integer, (He.glo_ok X G (c0.fact 7 (f := .glo "is_integer_within") rfl)), F_is_integer_within.kp, b_is_integer_within⟩
  have c_place_count : Can P w K mg base CX0 "place_count" ["least", "most"] 1 spPc := ⟨_, e_place_count, ok_place_count F_place_count N, (He.glo_ok X G (c0.fact 11 (f := .glo "place_count") rfl)), F_place_count.kp, b_place_count⟩
  have c_renumbered : Can P w K mg base CX0 "renumbered" ["places", "shift"] 1 spRen := ⟨_, e_renumbered, ok_ren F_renumbered Co.start, (He.glo_ok X G (c0.fact 13 (f := .glo "renumbered") rfl)), F_renumbered.kp, b_renumbered⟩
  have c_places_by_char : Can P w K mg base CX0 "places_by_char" ["chars"] 1 spPbc := ⟨_, e_places_by_char, ok_pbc F_places_by_char N, (He.glo_ok X G (c0.fact 10 (f := .glo "places_by_char") rfl)), F_places_by_char.kp, b_places_by_char⟩
  have cNet : CanNet P w K mg base (He.ga K "Net") 2 := ok_net_init F_Net_init_ TN (He.mkr_ok (c0.fact 77 (f := .mkr "Net") rfl)) (He.glo_ok X G (c0.fact 75 (f := .glo "Net") rfl)) b_Net_init_ c_places_by_char
  have c_run_net : Can P w K mg base CX0 "run_net" ["signs", "least", "most"] 4 (spRunNet (He.ga K "Net")) := ⟨_, e_run_net, ok_run_net F_run_net N c_place_count cNet, (He.glo_ok X G (c0.fact 12 (f := .glo "run_net") rfl)), F_run_net.kp, b_run_net⟩
  have c_chained : Can P w K mg base CX0 "chained" ["nets"] 4 (spNets (He.ga K "Net") chainL) := ⟨_, e_chained, ok_chained F_chained N Co.start TN c_renumbered cNet, (He.glo_ok X G (c0.fact 14 (f := .glo "chained") rfl)), F_chained.kp, b_chained⟩
  have c_side_by_side : Can P w K mg base CX0 "side_by_side" ["nets"] 4 (spNets (He.ga K "Net") sideL) := ⟨_, e_side_by_side, ok_side F_side_by_side N TN c_renumbered cNet, (He.glo_ok X G (c0.fact 15 (f := .glo "side_by_side") rfl)), F_side_by_side.kp, b_side_by_side⟩
  have c_alternative_net : Can P w K mg base CX0 "alternative_net" ["row"] 5 (spAlt (He.ga K "Net")) := ⟨_, e_alternative_net, ok_alt F_alternative_net c_chained c_run_net, (He.glo_ok X G (c0.fact 23 (f := .glo "alternative_net") rfl)), F_alternative_net.kp, b_alternative_net⟩
  have c_without_repeats : Can P w K mg base CX0 "without_repeats" ["rows"] 1 spWr := ⟨_, e_without_repeats, ok_without F_without_repeats N, (He.glo_ok X G (c0.fact 21 (f := .glo "without_repeats") rfl)), F_without_repeats.kp, b_without_repeats⟩
  have c_is_too_large : Can P w K mg base CX0 "is_too_large" ["rows"] 2 spToo := ⟨_, e_is_too_large, ok_too F_is_too_large N Co c_place_count, (He.glo_ok X G (c0.fact 22 (f := .glo "is_too_large") rfl)), F_is_too_large.kp, b_is_too_large⟩
  have c_is_sign_text : Can P w K mg base CX0 "is_sign_text" ["thing"] 1 (spTextA K (He.ga K "Signs")) := ⟨_, e_is_sign_text, ok_is_sign_text F_is_sign_text T N, (He.glo_ok X G (c0.fact 1 (f := .glo "is_sign_text") rfl)), F_is_sign_text.kp, b_is_sign_text⟩
  have c_is_signs : Can P w K mg base CX0 "is_signs" ["thing"] 2 (spSigns K (He.ga K "Signs")) := ⟨_, e_is_signs, ok_is_signs F_is_signs T N c_is_sign_text, (He.glo_ok X G (c0.fact 2 (f := .glo "is_signs") rfl)), F_is_signs.kp, b_is_signs⟩
  have MI := (He.mkr_ok (c0.fact 60 (f := .mkr "Signs") rfl))
  have cMk : CanMk P w K mg base (He.ga K "Signs") := by
    obtain ⟨fT, fdT, GT, gT, kT, bT⟩ := c_is_sign_text
    obtain ⟨d1, v1, b1⟩ := bI1
    obtain ⟨d0, v0, b0⟩ := bI0
    have e1 : d1 = [] := by cases v1; rfl
    subst e1
    exact ⟨_, e_Signs_init_, MI, ok_init F_Signs_init_ T GT gT kT bT, b1, d0, v0, b0⟩
  have cMkR : CanMkR P w K mg base (He.ga K "Signs") (He.ga K "BadSigns") := by
    obtain ⟨fT, fdT, GT, gT, kT, bT⟩ := c_is_sign_text
    obtain ⟨d1, v1, b1⟩ := bI1
    have e1 : d1 = [] := by cases v1; rfl
    subst e1
    exact ⟨_, e_Signs_init_, MI, ok_initR F_Signs_init_ T PS_ GT gT kT bT, b1⟩
  have c_signs_of : Can P w K mg base CX0 "signs_of" ["thing"] 4 (spOf (He.ga K "Signs")) := ⟨_, e_signs_of, ok_signs_of F_signs_of T N cMk, (He.glo_ok X G (c0.fact 3 (f := .glo "signs_of") rfl)), F_signs_of.kp, b_signs_of⟩
  have c_signs_ofR : Can P w K mg base (L2N.CX P w) "signs_of" ["thing"] 4 (spOfR K (He.ga K "Signs") (He.ga K "BadSigns")) := ⟨_, e_signs_of, ok_signs_ofR F_signs_of T N cMkR, (He.glo_ok X G (c0.fact 3 (f := .glo "signs_of") rfl)), F_signs_of.kp, b_signs_of⟩
  have c_are_bounds : Can P w K mg base CX0 "are_bounds" ["least", "most"] 3 (spBounds K) := ⟨_, e_are_bounds, ok_bounds F_are_bounds Co c_is_integer_within, (He.glo_ok X G (c0.fact 20 (f := .glo "are_bounds") rfl)), F_are_bounds.kp, b_are_bounds⟩
  have cKind : CanKind P w K mg base (He.ga K "Net") (He.ga K "Kind") (He.ga K "BadKind") := ⟨_, e_Kind_init_, (He.mkr_ok (c0.fact 85 (f := .mkr "Kind") rfl)), gK, b_Kind_init_, ok_kinit F_Kind_init_ TK PB c_without_repeats c_is_too_large c_side_by_side c_alternative_net⟩
  have gRun := ok_run F_Kindrun PB cKind c_is_signs c_are_bounds c_signs_of
  have c_kept_signs : Can P w K mg base CX0 "kept_signs" ["signs", "others"] 1 (spTwo fAnd) := ⟨_, e_kept_signs, ok_kept_signs F_kept_signs, (He.glo_ok X G (c0.fact 4 (f := .glo "kept_signs") rfl)), F_kept_signs.kp, b_kept_signs⟩
  have c_other_signs : Can P w K mg base CX0 "other_signs" ["signs", "others"] 1 (spTwo fSub) := ⟨_, e_other_signs, ok_other_signs F_other_signs, (He.glo_ok X G (c0.fact 5 (f := .glo "other_signs") rfl)), F_other_signs.kp, b_other_signs⟩
  have c_is_sign : Can P w K mg base CX0 "is_sign" ["thing"] 1 (spIsSign K) := ⟨_, e_is_sign, ok_is_sign F_is_sign T N, (He.glo_ok X G (c0.fact 0 (f := .glo "is_sign") rfl)), F_is_sign.kp, b_is_sign⟩
  have g_or := ok_orR (Ds := Ds' (He.ga K "Field") (He.ga K "Mark") (He.ga K "Maybe") (He.ga K "Form")) (BS := (He.ga K "BadSigns")) F_Signs_or_ T cMk c_signs_ofR c_kept_signs c_other_signs
  have g_and := ok_andR (Ds := Ds' (He.ga K "Field") (He.ga K "Mark") (He.ga K "Maybe") (He.ga K "Form")) (BS := (He.ga K "BadSigns")) F_Signs_and_ T cMk c_signs_ofR c_kept_signs c_other_signs
  have g_sub := ok_subR (Ds := Ds' (He.ga K "Field") (He.ga K "Mark") (He.ga K "Maybe") (He.ga K "Form")) (BS := (He.ga K "BadSigns")) F_Signs_sub_ T cMk c_signs_ofR c_kept_signs c_other_signs
  have g_rsub := ok_rsubR (Ds := Ds' (He.ga K "Field") (He.ga K "Mark") (He.ga K "Maybe") (He.ga K "Form")) (BS := (He.ga K "BadSigns")) F_Signs_rsub_ T cMk c_signs_ofR c_kept_signs c_other_signs
  have g_ror := ok_rorR F_Signs_ror_ FOr (He.meth_ok (c0.fact 62 (f := .meth "Signs" "__or__") rfl)) (He.meth_ok (c0.fact 63 (f := .meth "Signs" "__ror__") rfl)) g_or b_Signs_or_
  have g_ior := ok_iorR F_Signs_ior_ FOr (He.meth_ok (c0.fact 62 (f := .meth "Signs" "__or__") rfl)) (He.meth_ok (c0.fact 63 (f := .meth "Signs" "__ror__") rfl)) g_or b_Signs_or_
  have g_rand := ok_randR F_Signs_rand_ FAnd (He.meth_ok (c0.fact 65 (f := .meth "Signs" "__and__") rfl)) (He.meth_ok (c0.fact 66 (f := .meth "Signs" "__rand__") rfl)) g_and b_Signs_and_
  have g_subG := ok_subG F_Signs_sub_ T cMk c_signs_of c_other_signs
  have g_within := ok_withinR (BS := (He.ga K "BadSigns")) F_Signswithin T cMk c_signs_ofR c_kept_signs c_other_signs
  have g_span := ok_span F_Signsspan T PS_ cMk c_is_sign
  have g_letters := ok_sletters F_Signsletters T S_span g_span b_Signsspan
  have g_capitals := ok_scapitals F_Signscapitals T S_span g_span b_Signsspan
  have g_digits := ok_sdigits F_Signsdigits T S_span g_span b_Signsspan
  have g_least := ok_least (P := P) (w := w) (base := base) F_Signsleast T PS_
  have g_spelled := ok_spelled (P := P) (w := w) (base := base) F_Signsspelled T
  have g_contains := ok_contains F_Signs_contains_ T c_is_sign
  have g_eq := ok_eq (P := P) (w := w) (base := base) F_Signs_eq_ T N
  have c_stand_from : Can P w K mg base CX0 "stand_from" ["net", "start", "text"] 1 spSf0 := ⟨_, e_stand_from, ok_sf0 F_stand_from, (He.glo_ok X G (c0.fact 17 (f := .glo "stand_from") rfl)), F_stand_from.kp, b_stand_from⟩
  have c_stand_after : Can P w K mg base CX0 "stand_after" ["net", "text"] 2 spSa0 := ⟨_, e_stand_after, ok_sa0 F_stand_after Co.start c_stand_from, (He.glo_ok X G (c0.fact 18 (f := .glo "stand_after") rfl)), F_stand_after.kp, b_stand_after⟩
  have c_takes : Can P w K mg base CX0 "takes" ["net", "text"] 3 (spTk0 (He.ga K "Net")) := ⟨_, e_takes, ok_tk0 F_takes W c_stand_after, (He.glo_ok X G (c0.fact 19 (f := .glo "takes") rfl)), F_takes.kp, b_takes⟩
  have g_he := ok_he F_Kindhas_empty W c_takes
  have c_is_row : Can P w K mg base CX0 "is_row" ["thing"] 1 (spRowL K) := ⟨_, e_is_row, ok_is_row F_is_row N, (He.glo_ok X G (c0.fact 8 (f := .glo "is_row") rfl)), F_is_row.kp, b_is_row⟩
  have c_is_name : Can P w K mg base CX0 "is_name" ["thing"] 1 spName := ⟨_, e_is_name, ok_is_name F_is_name W N, (He.glo_ok X G (c0.fact 9 (f := .glo "is_name") rfl)), F_is_name.kp, b_is_name⟩
  have c_is_field_kind : Can P w K mg base CX0 "is_field_kind" ["thing"] 6 (spFk (He.ga K "Kind") (He.ga K "Net")) := ⟨_, e_is_field_kind, ok_fk F_is_field_kind W N PH g_he b_Kindhas_empty, (He.glo_ok X G (c0.fact 24 (f := .glo "is_field_kind") rfl)), F_is_field_kind.kp, b_is_field_kind⟩
  have c_is_item : Can P w K mg base CX0 "is_item" ["thing"] 1 (spItem (He.ga K "Field") (He.ga K "Kind") (He.ga K "Net")) := ⟨_, e_is_item, ok_is_item F_is_item W N, (He.glo_ok X G (c0.fact 25 (f := .glo "is_item") rfl)), F_is_item.kp, b_is_item⟩
  have c_has_own_field : Can P w K mg base CX0 "has_own_field" ["row"] 1 (spHasOwn (He.ga K "Field") (He.ga K "Kind") (He.ga K "Net")) := ⟨_, e_has_own_field, ok_own_f F_has_own_field W N, (He.glo_ok X G (c0.fact 26 (f := .glo "has_own_field") rfl)), F_has_own_field.kp, b_has_own_field⟩
  have c_depth_around : Can P w K mg base CX0 "depth_around" ["parts"] 1 (spDepth (He.ga K "Field") (He.ga K "Kind") (He.ga K "Net")) := ⟨_, e_depth_around, ok_depth F_depth_around W N, (He.glo_ok X G (c0.fact 28 (f := .glo "depth_around") rfl)), F_depth_around.kp, b_depth_around⟩
  have c_item_size : Can P w K mg base CX0 "item_size" ["item"] 1 (spIsz (He.ga K "Field") (He.ga K "Kind") (He.ga K "Net")) := ⟨_, e_item_size, ok_isz F_item_size W N, (He.glo_ok X G (c0.fact 29 (f := .glo "item_size") rfl)), F_item_size.kp, b_item_size⟩
  have c_row_size : Can P w K mg base CX0 "row_size" ["row"] 2 (spRsz (He.ga K "Field") (He.ga K "Kind") (He.ga K "Net")) := ⟨_, e_row_size, ok_rsz F_row_size N c_item_size, (He.glo_ok X G (c0.fact 30 (f := .glo "row_size") rfl)), F_row_size.kp, b_row_size⟩
  have c_joined : Can P w K mg base CX0 "joined" ["row"] 1 (spJoined (He.ga K "Field") (He.ga K "Kind") (He.ga K "Net")) := ⟨_, e_joined, ok_joined F_joined W N, (He.glo_ok X G (c0.fact 31 (f := .glo "joined") rfl)), F_joined.kp, b_joined⟩
  have c_fields_lst : Can P w K mg base CX0 "fields_in" ["row"] 1 (spFin_lst (He.ga K "Field") (He.ga K "Kind") (He.ga K "Net")) := ⟨_, e_fields_in, ok_fin_lst F_fields_in W N, (He.glo_ok X G (c0.fact 27 (f := .glo "fields_in") rfl)), F_fields_in.kp, b_fields_in⟩
  have c_fields_tup : Can P w K mg base CX0 "fields_in" ["row"] 1 (spFin_tup (He.ga K "Field") (He.ga K "Kind") (He.ga K "Net")) := ⟨_, e_fields_in, ok_fin_tup F_fields_in W N, (He.glo_ok X G (c0.fact 27 (f := .glo "fields_in") rfl)), F_fields_in.kp, b_fields_in⟩
  have c_is_item_row : Can P w K mg base CX0 "is_item_row" ["thing"] 2 (spIir (He.ga K "Field") (He.ga K "Kind") (He.ga K "Net")) := ⟨_, e_is_item_row, ok_iir F_is_item_row N c_is_row c_is_item, (He.glo_ok X G (c0.fact 33 (f := .glo "is_item_row") rfl)), F_is_item_row.kp, b_is_item_row⟩
  have c_lines_size : Can P w K mg base CX0 "lines_size" ["lines"] 3 (spLsz (He.ga K "Field") (He.ga K "Kind") (He.ga K "Net")) := ⟨_, e_lines_size, ok_lsz F_lines_size N c_row_size, (He.glo_ok X G (c0.fact 34 (f := .glo "lines_size") rfl)), F_lines_size.kp, b_lines_size⟩
  have c_check_lines : Can P w K mg base CX0 "check_lines" ["lines"] 4 (spCheck (He.ga K "Field") (He.ga K "Kind") (He.ga K "Net")) := ⟨_, e_check_lines, ok_check F_check_lines W N c_is_row c_is_item_row c_fields_lst c_lines_size, (He.glo_ok X G (c0.fact 32 (f := .glo "check_lines") rfl)), F_check_lines.kp, b_check_lines⟩
  have c_item_net : Can P w K mg base CX0 "item_net" ["item"] 1 (spInet (He.ga K "Field") (He.ga K "Kind") (He.ga K "Net")) := ⟨_, e_item_net, ok_inet F_item_net W N, (He.glo_ok X G (c0.fact 37 (f := .glo "item_net") rfl)), F_item_net.kp, b_item_net⟩
  have c_row_net : Can P w K mg base CX0 "row_net" ["row"] 5 (spRnet (He.ga K "Field") (He.ga K "Kind") (He.ga K "Net")) := ⟨_, e_row_net, ok_rnet F_row_net (by decide) c_item_net c_chained, (He.glo_ok X G (c0.fact 36 (f := .glo "row_net") rfl)), F_row_net.kp, b_row_net⟩
  have c_under_each_other : Can P w K mg base CX0 "under_each_other" ["nets"] 1 spUe := ⟨_, e_under_each_other, ok_ue F_under_each_other, (He.glo_ok X G (c0.fact 16 (f := .glo "under_each_other") rfl)), F_under_each_other.kp, b_under_each_other⟩
  have c_lines_net : Can P w K mg base CX0 "lines_net" ["lines"] 6 (spLnet (He.ga K "Field") (He.ga K "Kind") (He.ga K "Net")) := ⟨_, e_lines_net, ok_lnet F_lines_net (by decide) c_row_net c_under_each_other, (He.glo_ok X G (c0.fact 35 (f := .glo "lines_net") rfl)), F_lines_net.kp, b_lines_net⟩
  have c_row_holders : Can P w K mg base CX0 "row_holders" ["row"] 2 (spRh (He.ga K "Field") (He.ga K "Kind") (He.ga K "Net")) := ⟨_, e_row_holders, ok_rh F_row_holders W N c_item_size, (He.glo_ok X G (c0.fact 39 (f := .glo "row_holders") rfl)), F_row_holders.kp, b_row_holders⟩
  have c_lines_holders : Can P w K mg base CX0 "lines_holders" ["lines"] 3 (spLh (He.ga K "Field") (He.ga K "Kind") (He.ga K "Net")) := ⟨_, e_lines_holders, ok_lh F_lines_holders c_row_holders, (He.glo_ok X G (c0.fact 38 (f := .glo "lines_holders") rfl)), F_lines_holders.kp, b_lines_holders⟩
  have c_owner_sets : Can P w K mg base CX0 "owner_sets" ["holders"] 1 spOs := ⟨_, e_owner_sets, ok_os F_owner_sets N, (He.glo_ok X G (c0.fact 40 (f := .glo "owner_sets") rfl)), F_owner_sets.kp, b_owner_sets⟩
  have g_F := ok_f_init F_Field_init_ W c_is_name c_is_field_kind
  have g_M := ok_m_init F_Mark_init_ W N c_is_sign_text
  have g_Y := ok_y_init F_Maybe_init_ W N c_is_row c_is_item c_has_own_field c_depth_around c_row_size c_joined
  have g_O := ok_o_init F_Form_init_ W N c_check_lines c_joined c_fields_tup (by decide) c_lines_net c_lines_holders c_owner_sets
  have c_l_bag : Can P w K mg base CX0 "_law_bag" ["_law_script"] 1 (spBag K) := ⟨_, e_l_bag, ok_bag F_l_bag N.list, (He.glo_ok X G (c0.fact 41 (f := .glo "_law_bag") rfl)), F_l_bag.kp, b_l_bag⟩
  have c_l_draw : Can P w K mg base CX0 "_law_draw" ["_law_bag_here", "_law_limit"] 1 spDraw := ⟨_, e_l_draw, ok_draw F_l_draw N.len N.int, (He.glo_ok X G (c0.fact 42 (f := .glo "_law_draw") rfl)), F_l_draw.kp, b_l_draw⟩
  have c_l_alphabet : Can P w K mg base CX0 "_law_alphabet" [] 1 spAlpha := ⟨_, e_l_alphabet, ok_alpha F_l_alphabet, (He.glo_ok X G (c0.fact 43 (f := .glo "_law_alphabet") rfl)), F_l_alphabet.kp, b_l_alphabet⟩
  have c_l_letters : Can P w K mg base CX0 "_law_letters" ["_law_bag_here", "_law_many"] 2 spLetters := by
    obtain ⟨fA, fdA, GA, gA, kA, bA⟩ := c_l_alphabet
    obtain ⟨fD, fdD, GD, gD, kD, bD⟩ := c_l_draw
    exact ⟨_, e_l_letters, ok_letters F_l_letters N.list N.len N.range GA gA kA bA GD gD kD bD, (He.glo_ok X G (c0.fact 44 (f := .glo "_law_letters") rfl)), F_l_letters.kp, b_l_letters⟩
  have c_l_refused : Can P w K mg base CX0 "_law_refused" ["_law_made", "_law_one", "_law_other"] 8 (spRefused P w K mg base (He.ga K "BadSigns")) := ⟨_, e_l_refused, ok_l_refused F_l_refused N Er En, (He.glo_ok X G (c0.fact 45 (f := .glo "_law_refused") rfl)), F_l_refused.kp, b_l_refused⟩
  have c_l_or : Can P w K mg base (L2N.CX P w) "_law_or" ["_law_one", "_law_other"] 7 (spHeld K (Ds' (He.ga K "Field") (He.ga K "Mark") (He.ga K "Maybe") (He.ga K "Form")) (He.ga K "Signs") (He.ga K "BadSigns")) := ⟨_, e_l_or, ok_l_or F_l_or FOr (He.meth_ok (c0.fact 62 (f := .meth "Signs" "__or__") rfl)) (He.meth_ok (c0.fact 63 (f := .meth "Signs" "__ror__") rfl)) g_or b_Signs_or_ g_ror b_Signs_ror_, (He.glo_ok X G (c0.fact 46 (f := .glo "_law_or") rfl)), F_l_or.kp, b_l_or⟩
  have c_l_and : Can P w K mg base (L2N.CX P w) "_law_and" ["_law_one", "_law_other"] 7 (spHeld K (Ds' (He.ga K "Field") (He.ga K "Mark") (He.ga K "Maybe") (He.ga K "Form")) (He.ga K "Signs") (He.ga K "BadSigns")) := ⟨_, e_l_and, ok_l_and F_l_and FAnd (He.meth_ok (c0.fact 65 (f := .meth "Signs" "__and__") rfl)) (He.meth_ok (c0.fact 66 (f := .meth "Signs" "__rand__") rfl)) g_and b_Signs_and_ g_rand b_Signs_rand_, (He.glo_ok X G (c0.fact 47 (f := .glo "_law_and") rfl)), F_l_and.kp, b_l_and⟩
  have c_l_less : Can P w K mg base (L2N.CX P w) "_law_less" ["_law_one", "_law_other"] 7 (spHeld K (Ds' (He.ga K "Field") (He.ga K "Mark") (He.ga K "Maybe") (He.ga K "Form")) (He.ga K "Signs") (He.ga K "BadSigns")) := ⟨_, e_l_less, ok_l_less F_l_less FSub (He.meth_ok (c0.fact 67 (f := .meth "Signs" "__sub__") rfl)) (He.meth_ok (c0.fact 68 (f := .meth "Signs" "__rsub__") rfl)) g_sub b_Signs_sub_ g_rsub b_Signs_rsub_, (He.glo_ok X G (c0.fact 48 (f := .glo "_law_less") rfl)), F_l_less.kp, b_l_less⟩
  have c_l_or_in_place : Can P w K mg base (L2N.CX P w) "_law_or_in_place" ["_law_one", "_law_other"] 7 (spOpR K (Ds' (He.ga K "Field") (He.ga K "Mark") (He.ga K "Maybe") (He.ga K "Form")) (He.ga K "Signs") (He.ga K "BadSigns")) := ⟨_, e_l_or_in_place, ok_l_or_in_place F_l_or_in_place FOr (He.meth_ok (c0.fact 64 (f := .meth "Signs" "__ior__") rfl)) g_ior b_Signs_ior_, (He.glo_ok X G (c0.fact 49 (f := .glo "_law_or_in_place") rfl)), F_l_or_in_place.kp, b_l_or_in_place⟩
  have c_l_new : Can P w K mg base (L2N.CX P w) "_law_new" ["_law_one", "_law_other"] 4 (spOpR K (Ds' (He.ga K "Field") (He.ga K "Mark") (He.ga K "Maybe") (He.ga K "Form")) (He.ga K "Signs") (He.ga K "BadSigns")) := ⟨_, e_l_new, ok_l_new F_l_new T cMkR, (He.glo_ok X G (c0.fact 50 (f := .glo "_law_new") rfl)), F_l_new.kp, b_l_new⟩
  have c_l_inside : Can P w K mg base (L2N.CX P w) "_law_inside" ["_law_one", "_law_other"] 6 (spInR K (He.ga K "Signs") (He.ga K "BadSigns")) := ⟨_, e_l_inside, ok_l_inside F_l_inside T (He.meth_ok (c0.fact 71 (f := .meth "Signs" "within") rfl)) g_within b_Signswithin, (He.glo_ok X G (c0.fact 51 (f := .glo "_law_inside") rfl)), F_l_inside.kp, b_l_inside⟩
  have c_l_span_of : Can P w K mg base (L2N.CX P w) "_law_span_of" ["_law_one", "_law_other"] 5 (spSpanN K (He.ga K "BadSigns")) := ⟨_, e_l_span_of, ok_l_span_of F_l_span_of T S_span g_span b_Signsspan, (He.glo_ok X G (c0.fact 52 (f := .glo "_law_span_of") rfl)), F_l_span_of.kp, b_l_span_of⟩
  have c_l_least_of : Can P w K mg base (L2N.CX P w) "_law_least_of" ["_law_one", "_law_other"] 2 (spLeastN (He.ga K "Signs") (He.ga K "BadSigns")) := ⟨_, e_l_least_of, ok_l_least_of F_l_least_of T (He.meth_ok (c0.fact 72 (f := .meth "Signs" "least") rfl)) g_least b_Signsleast, (He.glo_ok X G (c0.fact 53 (f := .glo "_law_least_of") rfl)), F_l_least_of.kp, b_l_least_of⟩
  have c_l_bad : Can P w K mg base CX0 "_law_bad" ["_law_bag_here", "_law_word"] 2 (spBad K (Ds' (He.ga K "Field") (He.ga K "Mark") (He.ga K "Maybe") (He.ga K "Form")) (He.ga K "Signs")) := ⟨_, e_l_bad, ok_l_bad F_l_bad N (fun t ht => Fm.no (He.ga K "Signs") (by simp) t ht) c_l_draw, (He.glo_ok X G (c0.fact 54 (f := .glo "_law_bad") rfl)), F_l_bad.kp, b_l_bad⟩
  have c_l_all_refused : Can P w K mg base CX0 "_law_all_refused" ["_law_held", "_law_thing"] 9 (spAll K (Ds' (He.ga K "Field") (He.ga K "Mark") (He.ga K "Maybe") (He.ga K "Form")) (He.ga K "Signs")) := ⟨_, e_l_all_refused, ok_l_all F_l_all_refused c_l_refused c_l_or c_l_and c_l_less c_l_or_in_place c_l_new c_l_inside, (He.glo_ok X G (c0.fact 55 (f := .glo "_law_all_refused") rfl)), F_l_all_refused.kp, b_l_all_refused⟩
  have c_l_span : Can P w K mg base CX0 "_law_span" ["_law_low", "_law_high"] 9 spLSpan := ⟨_, e_l_span, ok_l_span F_l_span T N nm c_l_alphabet S_span g_span b_Signsspan (He.meth_ok (c0.fact 73 (f := .meth "Signs" "spelled") rfl)) g_spelled b_Signsspelled c_l_refused c_l_span_of, (He.glo_ok X G (c0.fact 56 (f := .glo "_law_span") rfl)), F_l_span.kp, b_l_span⟩
  obtain ⟨dR, vR, bR⟩ := bR1
  have Z : Parts P w K mg base (He.ga K "Signs") (He.ga K "Kind") (He.ga K "Net") (He.ga K "Field") (He.ga K "Mark") (He.ga K "Maybe") (He.ga K "Form") (He.ga K "BadSigns") (He.ga K "BadKind") := { bag := c_l_bag, draw := c_l_draw, letters := c_l_letters, bad := c_l_bad, all := c_l_all_refused, ref := c_l_refused, ins := c_l_inside, lo := c_l_least_of, span := c_l_span, mkS := cMk, has := ⟨_, _, (He.meth_ok (c0.fact 70 (f := .meth "Signs" "__contains__") rfl)), g_contains, b_Signs_contains_⟩, eq := ⟨_, _, (He.meth_ok (c0.fact 69 (f := .meth "Signs" "__eq__") rfl)), g_eq, b_Signs_eq_⟩, sp := ⟨_, _, (He.meth_ok (c0.fact 73 (f := .meth "Signs" "spelled") rfl)), g_spelled, b_Signsspelled⟩, sub := ⟨_, _, (He.meth_ok (c0.fact 67 (f := .meth "Signs" "__sub__") rfl)), g_subG, b_Signs_sub_⟩, run := ⟨_, _, dR, S_run, gRun, bR, vR⟩, let_ := ⟨_, _, S_letters, g_letters, b_Signsletters⟩, cap := ⟨_, _, S_capitals, g_capitals, b_Signscapitals⟩, dig := ⟨_, _, S_digits, g_digits, b_Signsdigits⟩, mkF := ⟨_, _, (He.mkr_ok (c0.fact 91 (f := .mkr "Field") rfl)), g_F, b_Field_init_⟩, mkM := ⟨_, _, (He.mkr_ok (c0.fact 97 (f := .mkr "Mark") rfl)), g_M, b_Mark_init_⟩, mkY := ⟨_, _, (He.mkr_ok (c0.fact 102 (f := .mkr "Maybe") rfl)), g_Y, b_Maybe_init_⟩, mkO := ⟨_, _, (He.mkr_ok (c0.fact 107 (f := .mkr "Form") rfl)), g_O, b_Form_init_⟩, first := FOr.self, nf := fun D hD => List.all_eq_true.mp xn1 D hD, nfS := xn2 }
  exact ok_law F_law N T W Z
end K02

open PySem PySem.W PySem.Calls PyProof.Rows
set_option maxRecDepth 100000 in
set_option maxHeartbeats 0 in
theorem PySem.Challenge.cw_townlines_k02_signs_refuse_holds : PySem.Challenge.rw_townlines_k02_signs_refuse.Holds := by
  w_on; o_law
  refine HandSHeadRun.head_any (r := OpenLaw.row PySem.Challenge.rw_townlines_k02_signs_refuse) (q := view (OpenLaw.row PySem.Challenge.rw_townlines_k02_signs_refuse).prog [127]) (H := K02.hk) (ob := K02.ob) (M := 60000) (loose := K02.loose) (d := HandSHeadRun.topDef (OpenLaw.row PySem.Challenge.rw_townlines_k02_signs_refuse).prog 127) (kwd := []) K02.ob_eq
    (by kernel_rfl) (fun s => by kernel_rfl) K02.run (by kernel_rfl) (by kernel_rfl) (by kernel_rfl) (by rfl) (by first | assumption | decide +kernel) (by decide +kernel) ⟨rfl, rfl, rfl, rfl, rfl, by decide +kernel⟩ ?hw ?hc
  case hw => w_witness2
  case hc =>
    refine L2.walk_ofE (l := PySem.Challenge.rw_townlines_k02_signs_refuse) (n := 63) (k := 10) (x := "_law_script") (CX := L2.CX0) rfl (by decide) (by kernel_rfl) ⟨rfl, by decide, by decide⟩ ?F (fun _ _ _ _ z => z)
    intro w mg fa h Y G hmg0
    obtain ⟨K, KX, c⟩ := Y
    have hmg : mg ("law" : PySem.Str) = some (.ref fa) := by
      have e : (HandSHeadRun.topDef (OpenLaw.row PySem.Challenge.rw_townlines_k02_signs_refuse).prog 127).name = ("law" : PySem.Str) := by kernel_rfl
      rw [← e]
      exact hmg0
    obtain ⟨fd, hb, hF⟩ := K02.facts (P := (PySem.Challenge.rw_townlines_k02_signs_refuse).prog) (w := w) KX G hmg c
    exact ⟨K, fd, K02.spLaw K, KX, hb, fun H a ns hl _ hS => ⟨a, ns, rfl, hS, hl, fun _ => rfl⟩, hF⟩

