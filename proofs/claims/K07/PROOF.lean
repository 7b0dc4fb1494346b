import PyProof.Rows.All
import Wide.All
import OpenK.AllK
import Wide.FinOn
import KE.KIsAll
import KE.KTryMore
import HandS.ForMost
import HandS.ForExc
import HandS.IsInst
import HandS.ExcInit
import HandS.ExcCtx
import HandS.ExcIs
import HandS.HotCalls
import HandS.ExcField
import KE.KExcIs
import HandS.HeadHook1
import KE.KStateDown
import HandS.Defaults
import HandS.Head0
import HandS.Head1
import HandS.Head2
import HandS.HeadEnd
import HandS.HeadHook2
import HandS.HeadHook3
import HandS.HeadHook4
import PyProof.StrBlock2
import HandS.Wide
import HandS.Codes
import HandS.Walk
import HandS.Comp
import KE.DataEq
import PySem.Challenge.RW_townlines_k07_errors_apart
set_option Elab.async false
set_option linter.all false
set_option maxRecDepth 100000
set_option maxHeartbeats 8000000
/-! Exceptions: X() of an own class, C(e) with an own __init__ where nothing is handled, a def called in an except suite that knows the exception, isinstance of it there. -/
namespace Tl
open PySem PySem.Spec PyProof.Rows L2
section
variable {X : Cx} {C : Addr} {bmB : List Value} {B newId initId : String}
/-- X() -/
theorem pmkN_own0 {x : Str} {p pos : Pos} (Fb : ExcBaseFacts B newId initId bmB) (hq : PySem.W.excIn X.K C bmB newId = true) (gC : X.mg x = some (.ref C)) (kC : PySem.W.keepIn X.K (.ref C) = true) (r : Raises X (.ref C)) (hg : Gl X x)
    (hdb : (x == ("__debug__" : Str)) = false := by decide) : L2N.PMk X (.Call (.Name x p) [] [] pos) (fun _ H Q => Q (.ref C) none H) := by
  intro pins s σ H Q I h
  refine wpAny_Call_Name_kw (ld_glob I hg gC ?_ hdb)
  refine PySem.W.callWith_K0 I.kIn kC ?_
  show wpAny _ _ (call (.ref C) []) _ _ _
  obtain ⟨bm, N, nm, qn, bs, hdct, sn, sub, ab, col, dd, k0, k1, k2, k3, k5, mN, hC, hN, hni, T⟩ := exc_obj I.kIn hq
  exact wpAny_call_exc_subT Fb T hC hN hni (fun h' e hm => L2N.mk_of I hm r h (I.hok.gone hm.new)) (Nat.zero_le _)
end
/-- C(e, ..) with an own __init__, nothing being handled -/
theorem pmkN_oex {X : Cx} {CX : CXT} {x : Str} {e : Expr} {es : List Expr} {ta : TA} {p pos : Pos} {C fI : Addr} {k : Nat} {fd : FuncData} {ps : List Str} {sp : Sp} (T : OexC X.K C) (iC : PySem.W.findIn X.K (.ref C) "__init__" = some (some (.ref fI))) (tI : PySem.W.typeIn X.K (.ref fI) = some (.type "function"))
    (Fi : FnOk X.prog X.w X.K X.mg X.base CX k fI fd ps sp) (hr : Room (k + 1) X.A) (hb : Binds X.K fd ps []) (hx : Passes CX X (fun _ _ _ => False)) (hg : Gl X x) (hm : X.mg x = some (.ref C)) (ha : PA X (e :: es) ta)
    (hdb : (x == ("__debug__" : Str)) = false := by decide) (he : starEach (e :: es) X.env = (false, eval e X.env) :: starEach es X.env := by rfl) (hpl : (backTo pos (starEach es X.env)).any (·.1) = false := by rfl) :
    L2N.PMk X (.Call (.Name x p) (e :: es) [] pos) (tMkO C sp [] ta) := by
  intro pins s σ H Q I h
  obtain ⟨nm, qn, N, bs, bm, sn, sub, ab, col, dd, k0, k1, k2, k3, k5, hC, hbm⟩ := T.cls
  refine wpAny_Call_Name_kw (ld_glob I hg hm ?_ hdb)
  refine PySem.W.callWith_K (h₀ := X.base) I.ok.mod.kin T.kC (thn (ha.run pos pins s σ H _ I h) fun us s1 ⟨vs, H1, I1, r1, hz, q1⟩ => ⟨I1.kIn, ?_⟩) he hpl
  show wpAny _ _ (call (.ref C) us) _ _ _
  obtain ⟨hh, gn, dr, tk, os⟩ := s1
  generalize hA : hh.objs.size + 1 = A
  have hle : hh.objs.size ≤ A := by
    rw [← hA]
    exact Nat.le_succ _
  have hq := q1 A (I1.hok.fresh hle)
  rw [List.append_nil] at hq
  generalize hG : (hh.push (PySem.W.kdv_tup us)).push (PySem.HandSPX.excO C hh.objs.size) = G
  have kk : ∀ b o, hh.get? b = some o → G.get? b = some o := fun b o z => by
    rw [← hG]
    exact Heap.get?_push_of_some _ (Heap.get?_push_of_some _ z)
  have hget : G.get? A = some (PySem.HandSPX.excO C hh.objs.size) := by
    rw [← hG, ← hA]
    heap_get
  have I2 : Inv X pins σ (upd H1 A (exo A C none)) ⟨G, gn, dr, tk, os⟩ := I1.laid (t' := tk) (a := A) (o := exo A C none) (h' := G) kk hle (exo_ok hget)
  have r2 : Vals (V.ref A :: vs) (Value.ref A :: us) := .cons rfl r1
  have hl : (Value.ref A :: us ++ []).length = ps.length := by
    rw [List.append_nil, ← Fi.len _ _ _ _ hq]
    exact r2.length.symm
  have hus : us.length ≤ sizeLine := by
    rw [← Paired.length r1, sizeLine_eq]
    omega
  have b2 := hb _ (Value.ref A :: us) I2.kIn hl
  rw [List.append_nil] at b2
  have run := Fi.run _ X.stack _ _ ⟨Value.ref A :: us, []⟩ (Value.ref A :: us) _ _ (fun _ _ _ => False) (hr.make C us []) (I2.env0.make C us []) b2 r2 hq
  subst hA hG
  refine wpAny_call (PySem.HandSPX.call_own F.excBase_ValueError (fun Y => PySem.HandSPX.refsVE_contains Y bm hbm) (I1.kIn _ _ hC) (PySem.W.looks_findIn I1.kIn iC) (fun self => PySem.W.bind_fn I1.kIn self tI) hus (codeAny_mono run fun r s' hq' => ?_))
  cases r with
  | error er => exact hx pins σ _ _ er s' I2 hq'
  | ok fl =>
    cases fl with
    | ret u =>
      obtain ⟨v, H2, os2, bare2, un2, hok2, rv, ev, d, fs, ea, ed, hd1, q2⟩ := hq'
      subst ev
      obtain ⟨h2, g2, d2, t2, os'⟩ := s'
      obtain ⟨t0, G2, J, kG, ge, hoe, na⟩ := mk_end0 (d2 := d2) (t2 := t2) I1 hle kk un2 hok2 os2 bare2 ea ed hd1
      refine ⟨rv, _, _, _, ⟨G2, g2, d2, t2, os'⟩, _, .ref C, some d, rfl, J, kG, ge, hoe, ⟨rfl, rfl, fun vs hv => ?_⟩, rfl, rfl, na, rfl, bare2, raises_own T.exC T.tyC, q2⟩
      cases hv
      rfl
    | next => exact False.elim hq'
    | brk => exact False.elim hq'
    | cont => exact False.elim hq'
end Tl

/-! Several clauses `except C as n`; isinstance of the exception that a suite holds, its dict there or not. -/
namespace Tl
open PySem PySem.Spec PyProof.Rows L2
open L2N (Zn)
/-- several clauses `except C as n` -/
def wNamed (K : PySem.W.Frag) (Wo : WX) (D : Ends) : List (Value × Nat × (Addr → Value → Option Addr → TS)) → WX
  | [] => Wo
  | (c, i, ts) :: more => fun cls d σ H => ∃ yes, PySem.W.exmOne K cls c = some yes ∧ (yes = false → wNamed K Wo D more cls d σ H) ∧
      (yes = true → ∀ a, H a = none → ts a cls d ⟨fun σ1 H1 => D.nx (σ1.set i none) H1, D.rt, fun σ1 H1 => D.bk (σ1.set i none) H1, fun σ1 H1 => D.ct (σ1.set i none) H1⟩ (σ.set i (some (.ref a))) H)
inductive Clauses (X : Cx) : List ExceptHandler → List (Value × Nat × (Addr → Value → Option Addr → TS)) → Prop
  | none : Clauses X [] []
  | more {x n : Str} {c : Value} {i : Nat} {ts : Addr → Value → Option Addr → TS} {st : Stmt} {sts : List Stmt} {p1 p2 : Pos} {hds : List ExceptHandler} {l : List (Value × Nat × (Addr → Value → Option Addr → TS))}
      (nm : Names X x c) (at_ : X.N[i]? = some n) (lo : X.env.kindOf n = some .local)
      (su : ∀ (a : Addr) (oe : Obj) (cls : Value) (d : Option Addr) (pn : List (Addr × Obj)), Zn cls d oe → (∃ vs, oe.data = .fields vs) → PSs (X.suite a ((a, oe) :: pn)) (st :: sts) (ts a cls d))
      (tl : Clauses X hds l) : Clauses X (.ExceptHandler (some (.Name x p1)) (some n) (st :: sts) p2 :: hds) ((c, i, ts) :: l)
/-- a caught exception at a, on the ground: what stood ahead of it, what it is -/
structure Down (X : Cx) (pins : List (Addr × Obj)) (σ : L2.St) (H : Hp) (cls : Value) (d : Option Addr) (a : Addr) (B : Heap) (s0 s3 : Shared) : Prop where
  inv : Inv X pins σ H s0
  low : ∀ b o, s0.heap.get? b = some o → b ∉ frs X.stack → B.get? b = some o
  up : s0.heap.UpToSlots s3.heap
  fly : HandSPX.FlyingZ B (X.env :: X.outer) a (Zn cls d) s3.heap
  os : s3.os = s0.os
  gs : AllBare s3.gens
  na : H a = none
section
variable {X : Cx} {pins : List (Addr × Obj)} {σ : L2.St} {H : Hp} {cls : Value} {d : Option Addr} {a : Addr} {B : Heap} {s0 s3 : Shared}
theorem Down.here (D : Down X pins σ H cls d a B s0 s3) : Inv X pins σ H s3 := D.inv.landed D.low D.fly.1 D.up D.os D.gs
theorem Down.next {hp : Heap} (D : Down X pins σ H cls d a B s0 s3) (f : HandSPX.FlyingZ B (X.env :: X.outer) a (Zn cls d) hp) (u : s3.heap.UpToSlots hp) : Down X pins σ H cls d a B s0 { s3 with heap := hp } :=
  ⟨D.inv, D.low, D.up.trans u, f, D.os, D.gs, D.na⟩
/-- the state as a suite sees it -/
theorem Down.inside (D : Down X pins σ H cls d a B s0 s3) (hf : X.env.frame = some X.env.locals) :
    ∃ oe vs, s3.heap.get? a = some oe ∧ Zn cls d oe ∧ oe.data = .fields vs ∧ Inv (X.suite a ((a, oe) :: (X.pn ++ pins))) [] σ H s3 := by
  obtain ⟨oe, vs, g, z, e⟩ := D.fly.there
  have off : a ∉ frs (X.env :: X.outer) := fun m => by
    obtain ⟨_, o2, g2, n2⟩ := D.fly.2.2.1.mem m
    rw [g] at g2
    cases g2
    exact n2 _ e
  refine ⟨oe, vs, g, z, e, D.here.suite g e D.na (fun q => off ?_) (fun m => off ?_)⟩
  · exact List.mem_filterMap.mpr ⟨_, List.mem_cons_self, by rw [hf, q]⟩
  · obtain ⟨v, vm, vq⟩ := List.mem_filterMap.mp m
    exact List.mem_filterMap.mpr ⟨v, List.mem_cons_of_mem _ vm, vq⟩
/-- one clause -/
theorem clause_one {x n : Str} {c : Value} {i : Nat} {yes : Bool} {ts : Addr → Value → Option Addr → TS} {st : Stmt} {sts : List Stmt} {p1 p2 : Pos} {hds : List ExceptHandler} {E : Ends}
    (D : Down X pins σ H cls d a B s0 s3) (hf : X.env.frame = some X.env.locals) (nd : X.N.Nodup) (nm : Names X x c) (at_ : X.N[i]? = some n) (lo : X.env.kindOf n = some .local)
    (su : ∀ (a : Addr) (oe : Obj) (cls : Value) (d : Option Addr) (pn : List (Addr × Obj)), Zn cls d oe → (∃ vs, oe.data = .fields vs) → PSs (X.suite a ((a, oe) :: pn)) (st :: sts) (ts a cls d))
    (hy : PySem.W.exmOne X.K cls c = some yes) (no : yes = false → wpAny (model X.prog X.w) X.A (handleBy (.ref a) X.env hds) (SP X pins E) X.xe s3)
    (ok : yes = true → ts a cls d ⟨fun σ1 H1 => E.nx (σ1.set i none) H1, E.rt, fun σ1 H1 => E.bk (σ1.set i none) H1, fun σ1 H1 => E.ct (σ1.set i none) H1⟩ (σ.set i (some (.ref a))) H) :
    wpAny (model X.prog X.w) X.A (handleBy (.ref a) X.env (.ExceptHandler (some (.Name x p1)) (some n) (st :: sts) p2 :: hds)) (SP X pins E) X.xe s3 := by
  obtain ⟨o1, w1, g1, z1, e1, I1⟩ := D.inside hf
  have TY : PySem.W.Looks (model X.prog X.w) s3.heap (typeOf (.ref a)) cls := fun _ _ _ _ k q => wpAny_typeOf_ref (k _ _ g1) (by rw [z1.1]; exact q)
  have asked := PySem.W.exm_one (M := model X.prog X.w) D.here.kIn TY hy
  refine wpAny_handleBy_cons (codeAny_handlers_test ?_) fun q => by cases q
  have word : ∀ {Q E : Value → Shared → Prop}, Q c s3 → wpAny (model X.prog X.w) (X.A.mark (some (.ref a))) (eval (.Name x p1) X.env) Q E s3 := by
    intro Q E q
    obtain ⟨gl, nb, mine | ⟨other, boot, nn⟩⟩ := nm
    · exact ld_glob I1 gl mine q nb
    · exact ld_blt I1 gl other boot q nn nb
  refine word (asked.here ?_)
  cases yes with
  | false => exact no rfl
  | true =>
    refine codeAny_handlers_suite_as (HandSPX.lands_againZ D.fly fun hp f u => ?_)
    have D2 := D.next f u
    obtain ⟨o2, w2, g2, z2, e2, I2⟩ := D2.inside hf
    refine store_ok (X := X.suite a ((a, o2) :: (X.pn ++ pins))) (v := .ref a) I2 nd at_ (.inl lo) rfl (fun s5 I5 => ?_) (.inr lo)
    refine wpAny_mono ((su a o2 cls d _ z2 ⟨_, e2⟩).run [] s5 _ H _ I5 (ok rfl)) (fun fl s6 h6 => ?_) fun _ _ z => z.elim
    have leave : ∀ {σ6 : L2.St} {H6 : Hp} {R : Shared → Prop}, Inv (X.suite a ((a, o2) :: (X.pn ++ pins))) [] σ6 H6 s6 → (∀ s7, Inv X pins (σ6.set i none) H6 s7 → R s7) →
        wpAny (model X.prog X.w) X.A (do bindName X.env n .none; unbindBehindTheSuite X.env n p2) (fun _ s7 => R s7) X.xe s6 := fun I6 r => gone_ok (I6.unsuite D.inv.ok) nd at_ lo r
    cases fl with
    | ret u =>
      obtain ⟨v6, _, _, I6, r6, q6⟩ := h6
      exact leave I6 fun _ I7 => ⟨v6, _, _, I7, r6, q6⟩
    | next =>
      obtain ⟨_, _, I6, q6⟩ := h6
      exact leave I6 fun _ I7 => ⟨_, _, I7, q6⟩
    | brk =>
      obtain ⟨_, _, I6, q6⟩ := h6
      exact leave I6 fun _ I7 => ⟨_, _, I7, q6⟩
    | cont =>
      obtain ⟨_, _, I6, q6⟩ := h6
      exact leave I6 fun _ I7 => ⟨_, _, I7, q6⟩
/-- no clause took it -/
theorem clause_none {Wo : WX} {Q : Flow → Shared → Prop} (D : Down X pins σ H cls d a B s0 s3) (hs : X.stack = X.env :: X.outer) (hf : X.env.frame = some X.env.locals) (tk : L2N.Takes X Wo) (q : Wo cls d σ H) :
    wpAny (model X.prog X.w) X.A (handleBy (.ref a) X.env []) Q X.xe s3 := by
  obtain ⟨_, _, _, oe, w, T, _, _, g, _, e, t1, _⟩ := id D.fly
  refine wpAny_handleBy_nil ?_
  unfold PySem.passOn
  refine wpAny_bind (wpAny_field g e t1 ?_)
  rw [if_neg (by simp)]
  have out : wpAny (model X.prog X.w) X.A (setFlight (.ref a) X.env.frame) (fun _ s4 => wpAny (model X.prog X.w) X.A (throw (.ref a) : Sem Flow) Q X.xe s4) X.xe s3 := by
    rw [hf]
    refine HandSPX.setFlight_upZ D.fly fun hp held u => wpAny_throw (tk _ _ ⟨a, B, s0, pins, σ, H, cls, d, rfl, D.inv, D.low, D.up.trans u, .inr (.inr (by rw [hs]; exact held)), D.na, D.os, D.gs, q⟩)
  first
    | exact wpAny_bind (wpAny_pure (wpAny_bind out))
    | exact wpAny_bind out
theorem clauses_run {Wo : WX} {E : Ends} (hs : X.stack = X.env :: X.outer) (hf : X.env.frame = some X.env.locals) (nd : X.N.Nodup) (tk : L2N.Takes X Wo) (D : Down X pins σ H cls d a B s0 s3) :
    ∀ {hds : List ExceptHandler} {l : List (Value × Nat × (Addr → Value → Option Addr → TS))}, Clauses X hds l → wNamed X.K Wo E l cls d σ H → wpAny (model X.prog X.w) X.A (handleBy (.ref a) X.env hds) (SP X pins E) X.xe s3 := by
  intro hds l cl
  induction cl with
  | none => exact fun q => clause_none D hs hf tk q
  | more nm at_ lo su tl ih =>
    rintro ⟨yes, hy, no, ok⟩
    exact clause_one D hf nd nm at_ lo su hy (fun n => ih (no n)) fun y => ok y a D.na
end
/-- try: body; except C1 as n: ..; except C2 as n: .. -/
theorem ps_try_named {X : Cx} {body : List Stmt} {h1 : ExceptHandler} {hds : List ExceptHandler} {l : List (Value × Nat × (Addr → Value → Option Addr → TS))} {pos : Pos} {tb : WX → TS} {Wo : WX}
    (hs : X.stack = X.env :: X.outer) (hf : X.env.frame = some X.env.locals) (nd : X.N.Nodup) (tk : L2N.Takes X Wo)
    (hb : ∀ (W : WX) (pn : List (Addr × Obj)) (xe : Value → Shared → Prop), L2N.Takes (X.tr pn xe) W → PassesOwn (model X.prog X.w) X.A X.env xe → PSs (X.tr pn xe) body (tb W))
    (cl : Clauses X (h1 :: hds) l) : PS X (.Try body (h1 :: hds) [] [] pos) (fun E σ H => tb (wNamed X.K Wo E l) E σ H) := by
  refine ⟨fun pins s σ H E I q => wpAny_Try_except (wpAny_mono ((hb _ (X.pn ++ pins) (fun u s1 => wpAny (model X.prog X.w) X.A (noteFrame u X.env) (fun _ s2 => wpAny (model X.prog X.w) X.A (setFlight u none) (fun _ s3 =>
    wpAny (model X.prog X.w) X.A (handleBy u X.env (h1 :: hds)) (SP X pins E) X.xe s3) X.xe s2) X.xe s1) (fun u s1 xx => ?_) PassesOwn.looking).run [] s σ H E (I.toTry _) q) (fun fl s1 h => ?_) fun _ _ z => z)⟩
  · obtain ⟨a, B, s0, pins2, σ1, H1, cls, d, rfl, J, low, up, sky, na, os, gs, w⟩ := xx
    have fr : X.A.frames = some (X.env :: X.outer) := by rw [I.ok.frames, hs]
    show wpAny _ X.A (noteFrame (.ref a) X.env) _ _ _
    refine L2N.Sky.land L2N.Zn.steady fr hf (by rw [← hs]; exact sky) fun hp fly u => ?_
    exact clauses_run hs hf nd tk (s0 := s0) (s3 := { s1 with heap := hp }) ⟨J.ofTry I.ok, low, up.trans u, fly, os, gs, na⟩ cl w
  · cases fl with
    | ret u =>
      obtain ⟨v, _, _, J, r, z⟩ := h
      exact ⟨v, _, _, J.ofTry I.ok, r, z⟩
    | next =>
      obtain ⟨_, _, J, z⟩ := h
      exact wpAny_execs_nil ⟨_, _, J.ofTry I.ok, z⟩
    | brk =>
      obtain ⟨_, _, J, z⟩ := h
      exact ⟨_, _, J.ofTry I.ok, z⟩
    | cont =>
      obtain ⟨_, _, J, z⟩ := h
      exact ⟨_, _, J.ofTry I.ok, z⟩
/-- isinstance(e, C), e the exception at p -/
def rIsP (K : PySem.W.Frag) (p : Addr × Obj) : List V → Hp → VK → Prop := fun xs H Q => ∃ (D : Addr) (d : Option Addr) (c : V) (cv : Value) (b : Bool), xs = [.ref p.1, c] ∧ ExcC K D ∧ Zn (.ref D) d p.2 ∧ (∃ vs, p.2.data = .fields vs) ∧
  (∀ dx, d = some dx → ∃ fs, H dx = some (.xd fs)) ∧ (∀ u, RelV c u → u = cv) ∧ PySem.W.kitOne K (.ref D) cv = some b ∧ Q (.bl b) H
theorem call_isP {X : Cx} {p : Addr × Obj} (hp : p ∈ X.pn) : CallR X (.builtin "isinstance") (rIsP X.K p) := by
  intro pins s σ H xs us Q I r h
  obtain ⟨D, d, c, cv, b, rfl, C, z, ⟨w, e⟩, hd, hc, hk, q⟩ := h
  cases r with
  | cons r1 rr =>
    cases rr with
    | cons r2 rr =>
      cases rr
      cases r1
      have ec := hc _ r2
      subst ec
      obtain ⟨g, _⟩ := I.pin p (List.mem_append.mpr (.inl hp))
      have cl : (PySem.W.clsIn X.K D).isSome = true := by
        obtain ⟨cd, h1, _⟩ := PySem.W.any_some C.hd
        rw [h1]
        rfl
      have J : ∃ od, PySem.W.InstAt s.heap p.1 p.2 D od := by
        cases d with
        | none => exact ⟨none, g, z.1, by unfold PySem.W.notCls; rw [e] <;> rfl, by rw [z.2.1]; trivial⟩
        | some dx =>
          obtain ⟨fs, hx⟩ := hd dx rfl
          obtain ⟨mA, hn, _⟩ : ObjOk X.prog X.w H s.heap dx (.xd fs) := I.hok dx _ hx
          obtain ⟨od, _, _, ho, _⟩ := hn
          exact ⟨some od, g, z.1, by unfold PySem.W.notCls; rw [e] <;> rfl, by rw [z.2.1]; exact ho⟩
      obtain ⟨od, J⟩ := J
      exact PySem.W.kia_one (PySem.W.kitx_exc cl C.hg C.hk C.hs C.ha C.hn C.ht C.hm) I.kIn J hk (fun z => nomatch z) fun tk => ⟨.bl b, H, I.kept (t' := tk) fun _ _ z => z, rfl, q⟩
end Tl

/-! Defs called within an except suite whose promise speaks of the exception that is handled. -/
namespace Tl
open PySem PySem.Spec PyProof.Rows L2
open L2N (Zn)
/-- the context handles p's object -/
def HotP (X : Cx) (p : Addr × Obj) : Prop := L2H.Hot1 X.A p ∧ p ∈ X.pn
theorem hotP_suite {X : Cx} {a : Addr} {oe : Obj} {cls : Value} {d : Option Addr} {pn : List (Addr × Obj)} (z : Zn cls d oe) (e : ∃ vs, oe.data = .fields vs) : HotP (X.suite a ((a, oe) :: pn)) (a, oe) := by
  obtain ⟨vs, e⟩ := e
  exact ⟨⟨rfl, vs, e, z.2.2 vs e⟩, List.mem_cons_self ..⟩
/-- what such a def promises: sp speaks of the exception, too -/
structure FnHP (P : Program) (w : World) (K : PySem.W.Frag) (mg : Str → Option Value) (base : Heap) (CX : CXT) (k : Nat) (f : Addr) (fd : FuncData) (ps : List Str) (sp : Addr × Obj → Sp) : Prop where
  many : ∀ p vs H Q E, sp p vs H Q E → vs.length = ps.length
  does : ∀ (p : Addr × Obj) (A : Around) (outer : List Env) (s : Shared) (H : Hp) (args : Args) (us : List Value) (vs : List V) (Q : VK) (E : XK), L2H.RoomH k A → L2H.Hot1 A p → L2H.PinOk outer H s p → Env0 P w K mg base A outer s H →
    BindsTo s fd args (ps.zip us) → Vals vs us → sp p vs H Q E → codeAny (model P w) A (.call (.ref f) args) (CR CX outer P w H s Q E) s
section
variable {P : Program} {w : World} {K : PySem.W.Frag} {mg : Str → Option Value} {base : Heap} {CX : CXT}
theorem fn_ofHP {k : Nat} {f : Addr} {name qual : Str} {params : Arguments} {body : List Stmt} {scope : Scope} {dV kV doc pm cdv ct oc : Value} {an od : Option Addr} {osl : Array (Option Value)} {N ps : List Str} {sp : Addr × Obj → Sp}
    (at_ : K.lookup f = some ⟨oc, od, .func (PySem.W.fnOf name qual params body scope dV kV doc pm an cdv ct), osl⟩) (code : PySem.W.codeIn K cdv qual = true) (S : FnScope N ps scope) (many : ∀ p vs H Q E, sp p vs H Q E → vs.length = ps.length)
    (inner : ∀ (p : Addr × Obj) (A : Around) (outer : List Env) (s : Shared) (H : Hp) (vs : List V) (Q : VK) (E : XK), L2H.Hot1 A p → L2H.RoomH k (A.deeper (envOfC qual scope s.heap.objs.size f cdv)) → sp p vs H Q E →
      ∃ t, PSs (L2H.cxH CX P w K mg base N qual scope f cdv A outer s H E p) body t ∧ t { nx := fun _ H' => Q .non H', rt := Q } (L2.start N vs) H) :
    FnHP P w K mg base CX (k + 1) f (PySem.W.fnOf name qual params body scope dV kV doc pm an cdv ct) ps sp := by
  refine ⟨many, fun p A outer s H args us vs Q E room hot pin e0 bd rel h => ?_⟩
  have kin : K.In s.heap := e0.mod.kin.keeps fun _ _ g => (e0.bs _ _ g).1
  have places : ∀ y ∈ ps.zip us, scope.names.lookup y.1 = some .local ∨ (scope.names.lookup y.1 = some .cell ∧ ((cellsFrom (s.heap.objs.size + 1) scope.names []).lookup y.1).isSome = true) := by
    rintro ⟨n, v⟩ hy
    cases S.par n (List.of_mem_zip hy).1 with
    | inl q => exact .inl q
    | inr q => exact .inr ⟨q, PySem.W.cellsFrom_some _ _ _ (.inl q)⟩
  refine codeAny_call_function room.depth (kin _ _ at_) rfl S.co S.gen rfl (PySem.W.codeRec_of kin code) (bd _ _ _ _ (wpAny_newFunctionEnv_cells S.kind places fun env he s1 x => ?_))
  subst he
  refine ⟨e0.mod.nolimit.keeps fun _ _ g => (x.toInCall.keep _ _ (e0.bs _ _ g).1), codeAny_func ?_⟩
  obtain ⟨t, ht, q⟩ := inner p A outer s H vs Q E hot (room.deeper _) h
  have I := L2H.inv_startH (CX := CX) (E := E) S pin e0 (many _ _ _ _ _ h) rel x
  refine wpAny_mono (ht.run [] s1 (L2.start N vs) H _ I q) (fun fl s2 h2 => ?_) fun _ _ z => z
  have done : ∀ {σ2 : L2.St} {H2 : Hp} {v : V} {u : Value}, Inv (L2H.cxH CX P w K mg base N qual scope f cdv A outer s H E p) [] σ2 H2 s2 → RelV v u → Q v H2 → CE outer P w H s Q u s2 :=
    fun J r q => ⟨_, _, J.os, J.bare, J.base, J.hok, r, q⟩
  cases fl with
  | next =>
    obtain ⟨_, _, J, q⟩ := h2
    exact done (v := V.non) (u := Value.none) J rfl q
  | ret u =>
    obtain ⟨_, _, _, J, r, q⟩ := h2
    exact done J r q
  | brk =>
    obtain ⟨_, _, _, q⟩ := h2
    exact q.elim
  | cont =>
    obtain ⟨_, _, _, q⟩ := h2
    exact q.elim
end
section
variable {X : Cx} {CX : CXT} {k : Nat} {f : Addr} {fd : FuncData} {ps : List Str} {sp : Addr × Obj → Sp} {E : L2.St → XK} {x : Str} {q pos : Pos} {e : Expr} {es : List Expr} {t : TA} {p : Addr × Obj}
theorem pe_callHP {sq : Sp} (F : FnHP X.prog X.w X.K X.mg X.base CX k f fd ps sp) (weak : ∀ vs H Q E, sq vs H Q E → sp p vs H Q E) (room : L2H.RoomH k X.A) (hot : HotP X p) (hg : Gl X x) (hm : X.mg x = some (.ref f)) (hk : PySem.W.keepIn X.K (.ref f) = true) (hb : Binds X.K fd ps []) (hx : ∀ σ, PassesAt CX X σ (E σ))
    (ha : PA X (e :: es) t) (hdb : (x == ("__debug__" : Str)) = false := by decide) (he : starEach (e :: es) X.env = (false, eval e X.env) :: starEach es X.env := by rfl) (hpl : (backTo pos (starEach es X.env)).any (·.1) = false := by rfl) :
    PE X (.Call (.Name x q) (e :: es) [] pos) (tCallS sq E t) := by
  refine ⟨fun pins s σ H Q I h => wpAny_Call_Name_kw (ld_glob I hg hm (PySem.W.callWith_K (h₀ := X.base) I.ok.mod.kin hk (thn (ha.run pos pins s σ H _ I h) fun us s1 ⟨vs, H1, I1, r, y⟩ => ⟨I1.kIn, ?_⟩) he hpl) hdb)⟩
  have z := weak _ _ _ _ y
  have n : us.length = ps.length := r.length.symm.trans (F.many _ _ _ _ _ z)
  have b := hb s1 us I1.kIn (by rw [List.append_nil]; exact n)
  rw [List.append_nil] at b
  obtain ⟨g, fr, ne, nf, nc⟩ := I1.pin p (List.mem_append_left _ hot.2)
  have off : p.1 ∉ frs X.stack := fun m => by
    cases List.mem_cons.mp (I1.stkSub p.1 m) with
    | inl y => exact ne y
    | inr y => exact nf y
  refine wpAny_call (codeAny_mono (F.does p X.A X.stack s1 H1 ⟨us, []⟩ us vs Q (E σ) room hot.1 ⟨g, fr, off, nc⟩ I1.env0 b r z) fun res s2 y => ?_)
  cases res with
  | error er => exact hx σ pins H1 s1 er s2 I1 y
  | ok fl =>
    cases fl with
    | ret u => exact I1.after y
    | next => exact y.elim
    | brk => exact y.elim
    | cont => exact y.elim
end
end Tl

/-! A family of exception classes of the program: what the head reads of them. -/
namespace Tl
open PySem PySem.Spec PyProof.Rows L2
section
variable {K : PySem.W.Frag} {C : Addr}
def excCB (K : PySem.W.Frag) (D : Addr) : Bool := He.eqO (PySem.W.findIn K (.ref D) "__getattribute__") (some (some (.builtin "BaseException.__getattribute__"))) && (He.eqO (PySem.W.findIn K (.ref D) "__getattr__") (some none) &&
  (decide (PySem.W.subIn K (.ref D) (.type "BaseException") = some true) && (PySem.W.hasDictIn K D && (He.eqO (PySem.W.findIn K (.ref D) "__class__") (some (some (.builtin "object.__class__"))) &&
  (He.eqO (PySem.W.specialIn K (.builtin "object.__class__") "__get__") (some (some (.builtin "getset_descriptor.__get__"))) && (decide (PySem.W.takesIn K (.builtin "object.__class__") = some true) && decide (PySem.W.mroIn K D (.type "object") = some true)))))))
theorem excCB_ok (h : excCB K C = true) : ExcC K C := by
  obtain ⟨a1, h⟩ := He.ba h
  obtain ⟨a2, h⟩ := He.ba h
  obtain ⟨a3, h⟩ := He.ba h
  obtain ⟨a4, h⟩ := He.ba h
  obtain ⟨a5, h⟩ := He.ba h
  obtain ⟨a6, h⟩ := He.ba h
  obtain ⟨a7, h⟩ := He.ba h
  exact ⟨He.eqO_ok a1, He.eqO_ok a2, of_decide_eq_true a3, a4, He.eqO_ok a5, He.eqO_ok a6, of_decide_eq_true a7, of_decide_eq_true h⟩
/-- the class object of an exception class with an own __init__ -/
def oexO (C : Addr) : Option Obj → Bool
  | some ⟨.type "type", _, .cls cd, sl⟩ => (match cd.mro, sl.toList with
    | .ref D :: bm, [_, _, _, _, some (.builtin n), _] => decide (D = C) && (decide (n = "ValueError.__new__") && (!cd.hasDel && (cd.hasDict && PySem.HandSPX.refsVE bm)))
    | _, _ => false)
  | _ => false
theorem oexO_ok {r : Option Obj} (h : oexO C r = true) : ∃ nm q N bs bm sn sub ab col dd k0 k1 k2 k3 k5, r = some (excClassObj nm q C N bs bm true sn sub ab col dd k0 k1 k2 k3 k5 "ValueError.__new__") ∧ PySem.HandSPX.refsVE bm = true := by
  unfold oexO at h
  split at h
  · rename_i dd cd sl
    split at h
    · rename_i D bm k0 k1 k2 k3 n k5 hm hs
      obtain ⟨e1, h1⟩ := He.ba h
      obtain ⟨e2, h2⟩ := He.ba h1
      obtain ⟨e3, h3⟩ := He.ba h2
      obtain ⟨e4, h4⟩ := He.ba h3
      have e1 := of_decide_eq_true e1
      have e2 := of_decide_eq_true e2
      subst e1 e2
      obtain ⟨nm, bs, mro, ns, qn, hd, sn, sub, ab, col, de⟩ := cd
      dsimp only at hm e3 e4
      have e3 : de = false := by simpa using e3
      subst hm e3 e4
      have es : sl = #[k0, k1, k2, k3, some (.builtin "ValueError.__new__"), k5] := by
        obtain ⟨l⟩ := sl
        simp only at hs
        rw [hs]
      subst es
      exact ⟨nm, qn, ns, bs, bm, sn, sub, ab, col, dd, k0, k1, k2, k3, k5, rfl, h4⟩
    · cases h
  · cases h
def oexB (K : PySem.W.Frag) (C : Addr) : Bool := oexO C (K.lookup C) && (He.eqO (PySem.W.findIn K (.ref C) "__setattr__") (some (some (.builtin "object.__setattr__"))) && (decide (PySem.W.subIn K (.ref C) (.type "BaseException") = some true) &&
  (decide (PySem.W.typeIn K (.ref C) = some (.type "type")) && PySem.W.keepIn K (.ref C))))
theorem oexB_ok (h : oexB K C = true) : OexC K C := by
  obtain ⟨a1, h⟩ := He.ba h
  obtain ⟨a2, h⟩ := He.ba h
  obtain ⟨a3, h⟩ := He.ba h
  obtain ⟨a4, h⟩ := He.ba h
  obtain ⟨nm, q, N, bs, bm, sn, sub, ab, col, dd, k0, k1, k2, k3, k5, e, r⟩ := oexO_ok a1
  exact ⟨⟨nm, q, N, bs, bm, sn, sub, ab, col, dd, k0, k1, k2, k3, k5, e, r⟩, He.eqO_ok a2, of_decide_eq_true a3, of_decide_eq_true a4, h⟩
end
/-- the address of the i-th name -/
def cA (K : PySem.W.Frag) (cn : List Str) (i : Nat) : Addr := He.ga K (cn.getD i "")
def pairB (K : PySem.W.Frag) (cn : List Str) : Bool := (List.range cn.length).all fun i => (List.range cn.length).all fun j =>
  decide (PySem.W.kitOne K (.ref (cA K cn i)) (.ref (cA K cn j)) = some (decide (i = j))) && decide (PySem.W.exmOne K (.ref (cA K cn i)) (.ref (cA K cn j)) = some (decide (i = j)))
def eachB (K : PySem.W.Frag) (cn : List Str) : Bool := (List.range cn.length).all fun i => excCB K (cA K cn i) && (decide (PySem.W.exmOne K (.ref (cA K cn i)) (.ref (He.ga K "TownError")) = some true) && decide (PySem.W.kitOne K (.ref (cA K cn i)) (.type "ValueError") = some true))
def ownB (K : PySem.W.Frag) (cn : List Str) (n : Nat) : Bool := (List.range cn.length).all fun i => decide (i < n) || (oexB K (cA K cn i) && xfB K (cA K cn i))
def townB (K : PySem.W.Frag) (cn : List Str) (n : Nat) : Bool := eachB K cn && (pairB K cn && ownB K cn n)
structure Town (K : PySem.W.Frag) (cn : List Str) (n : Nat) : Prop where
  exc : ∀ i, i < cn.length → ExcC K (cA K cn i)
  base : ∀ i, i < cn.length → PySem.W.exmOne K (.ref (cA K cn i)) (.ref (He.ga K "TownError")) = some true
  ve : ∀ i, i < cn.length → PySem.W.kitOne K (.ref (cA K cn i)) (.type "ValueError") = some true
  is : ∀ i j, i < cn.length → j < cn.length → PySem.W.kitOne K (.ref (cA K cn i)) (.ref (cA K cn j)) = some (decide (i = j))
  ca : ∀ i j, i < cn.length → j < cn.length → PySem.W.exmOne K (.ref (cA K cn i)) (.ref (cA K cn j)) = some (decide (i = j))
  own : ∀ i, n ≤ i → i < cn.length → OexC K (cA K cn i)
  fld : ∀ i, n ≤ i → i < cn.length → XfC K (cA K cn i)
theorem townB_ok {K : PySem.W.Frag} {cn : List Str} {n : Nat} (h : townB K cn n = true) : Town K cn n := by
  obtain ⟨e, h⟩ := He.ba h
  obtain ⟨p, o⟩ := He.ba h
  have e1 := fun i (hi : i < cn.length) => He.ba (List.all_eq_true.mp e i (List.mem_range.mpr hi))
  have p1 := fun i j (hi : i < cn.length) (hj : j < cn.length) => He.ba (List.all_eq_true.mp (List.all_eq_true.mp p i (List.mem_range.mpr hi)) j (List.mem_range.mpr hj))
  have o1 : ∀ i, n ≤ i → i < cn.length → oexB K (cA K cn i) = true ∧ xfB K (cA K cn i) = true := fun i hn hi => by
    have z := List.all_eq_true.mp o i (List.mem_range.mpr hi)
    rw [Bool.or_eq_true, decide_eq_true_eq] at z
    exact z.elim (fun y => absurd y (Nat.not_lt.mpr hn)) He.ba
  exact ⟨fun i hi => excCB_ok (e1 i hi).1, fun i hi => of_decide_eq_true (He.ba (e1 i hi).2).1, fun i hi => of_decide_eq_true (He.ba (e1 i hi).2).2, fun i j hi hj => of_decide_eq_true (p1 i j hi hj).1, fun i j hi hj => of_decide_eq_true (p1 i j hi hj).2,
    fun i hn hi => oexB_ok (o1 i hn hi).1, fun i hn hi => xfB_ok (o1 i hn hi).2⟩
end Tl

namespace K07
open PySem PySem.Spec PyProof.Rows L2
def cn : List Str := ["BadSigns", "BadText", "BadKind", "NoReading", "TooMany", "TooLarge", "BadItem", "BadForm", "BadName", "Unknown", "Missing", "BadValue", "NotSingle", "NotWithin", "NoForm", "BadNumber", "TooWide", "BadShort"]
/-! ### the text -/
def top (i : Nat) : Stmt := PySem.Challenge.pw_townlines_k07_errors_apart.main.body.getD i (.Pass ⟨0, 0, 0, 0⟩)
abbrev s_BadItem_init_ : Stmt := inClass (top 8) 0
abbrev s_BadForm_init_ : Stmt := inClass (top 9) 0
abbrev s_BadName_init_ : Stmt := inClass (top 10) 0
abbrev s_Unknown_init_ : Stmt := inClass (top 11) 0
abbrev s_Missing_init_ : Stmt := inClass (top 12) 0
abbrev s_BadValue_init_ : Stmt := inClass (top 13) 0
abbrev s_NotSingle_init_ : Stmt := inClass (top 14) 0
abbrev s_NotWithin_init_ : Stmt := inClass (top 15) 0
abbrev s_NoForm_init_ : Stmt := inClass (top 16) 0
abbrev s_BadNumber_init_ : Stmt := inClass (top 17) 0
abbrev s_TooWide_init_ : Stmt := inClass (top 18) 0
abbrev s_BadShort_init_ : Stmt := inClass (top 19) 0
abbrev s_l_bag : Stmt := top 21
abbrev s_l_draw : Stmt := top 22
abbrev s_l_alphabet : Stmt := top 23
abbrev s_l_letters : Stmt := top 24
abbrev s_l_raise_plain : Stmt := top 25
abbrev s_l_raise : Stmt := top 26
abbrev s_l_classes : Stmt := top 27
abbrev s_l_by_base : Stmt := top 28
abbrev s_l_number_of : Stmt := top 29
abbrev s_l_name_of : Stmt := top 30
abbrev s_law : Stmt := top 31
/-! ### names and parameters -/
theorem sc_BadItem_init_ : FnScope ["self", "at"] ["self", "at"] (defScope s_BadItem_init_) := ⟨rfl, rfl, rfl, by decide +kernel, rfl, by decide +kernel, by decide +kernel⟩
theorem sc_BadForm_init_ : FnScope ["self", "at"] ["self", "at"] (defScope s_BadForm_init_) := ⟨rfl, rfl, rfl, by decide +kernel, rfl, by decide +kernel, by decide +kernel⟩
theorem sc_BadName_init_ : FnScope ["self", "name"] ["self", "name"] (defScope s_BadName_init_) := ⟨rfl, rfl, rfl, by decide +kernel, rfl, by decide +kernel, by decide +kernel⟩
theorem sc_Unknown_init_ : FnScope ["self", "name"] ["self", "name"] (defScope s_Unknown_init_) := ⟨rfl, rfl, rfl, by decide +kernel, rfl, by decide +kernel, by decide +kernel⟩
theorem sc_Missing_init_ : FnScope ["self", "name"] ["self", "name"] (defScope s_Missing_init_) := ⟨rfl, rfl, rfl, by decide +kernel, rfl, by decide +kernel, by decide +kernel⟩
theorem sc_BadValue_init_ : FnScope ["self", "name"] ["self", "name"] (defScope s_BadValue_init_) := ⟨rfl, rfl, rfl, by decide +kernel, rfl, by decide +kernel, by decide +kernel⟩
theorem sc_NotSingle_init_ : FnScope ["self", "text"] ["self", "text"] (defScope s_NotSingle_init_) := ⟨rfl, rfl, rfl, by decide +kernel, rfl, by decide +kernel, by decide +kernel⟩
theorem sc_NotWithin_init_ : FnScope ["self", "text"] ["self", "text"] (defScope s_NotWithin_init_) := ⟨rfl, rfl, rfl, by decide +kernel, rfl, by decide +kernel, by decide +kernel⟩
theorem sc_NoForm_init_ : FnScope ["self", "name"] ["self", "name"] (defScope s_NoForm_init_) := ⟨rfl, rfl, rfl, by decide +kernel, rfl, by decide +kernel, by decide +kernel⟩
theorem sc_BadNumber_init_ : FnScope ["self", "number"] ["self", "number"] (defScope s_BadNumber_init_) := ⟨rfl, rfl, rfl, by decide +kernel, rfl, by decide +kernel, by decide +kernel⟩
theorem sc_TooWide_init_ : FnScope ["self", "line"] ["self", "line"] (defScope s_TooWide_init_) := ⟨rfl, rfl, rfl, by decide +kernel, rfl, by decide +kernel, by decide +kernel⟩
theorem sc_BadShort_init_ : FnScope ["self", "name"] ["self", "name"] (defScope s_BadShort_init_) := ⟨rfl, rfl, rfl, by decide +kernel, rfl, by decide +kernel, by decide +kernel⟩
theorem sc_l_bag : FnScope ["_law_script"] ["_law_script"] (defScope s_l_bag) := ⟨rfl, rfl, rfl, by decide +kernel, rfl, by decide +kernel, by decide +kernel⟩
theorem sc_l_draw : FnScope ["_law_bag_here", "_law_limit", "_law_cell", "_law_number", "_law_drawn", "_law_one"] ["_law_bag_here", "_law_limit"] (defScope s_l_draw) := ⟨rfl, rfl, rfl, by decide +kernel, rfl, by decide +kernel, by decide +kernel⟩
theorem sc_l_alphabet : FnScope ["_law_first"] [] (defScope s_l_alphabet) := ⟨rfl, rfl, rfl, by decide +kernel, rfl, by decide +kernel, by decide +kernel⟩
theorem sc_l_letters : FnScope ["_law_bag_here", "_law_many", "_law_rest", "_law_found", "_law_k"] ["_law_bag_here", "_law_many"] (defScope s_l_letters) := ⟨rfl, rfl, rfl, by decide +kernel, rfl, by decide +kernel, by decide +kernel⟩
theorem sc_l_raise_plain : FnScope ["_law_which"] ["_law_which"] (defScope s_l_raise_plain) := ⟨rfl, rfl, rfl, by decide +kernel, rfl, by decide +kernel, by decide +kernel⟩
theorem sc_l_raise : FnScope ["_law_which", "_law_value"] ["_law_which", "_law_value"] (defScope s_l_raise) := ⟨rfl, rfl, rfl, by decide +kernel, rfl, by decide +kernel, by decide +kernel⟩
theorem sc_l_classes : FnScope ["_law_e", "_law_first", "_law_second", "_law_third", "_law_fourth"] ["_law_e"] (defScope s_l_classes) := ⟨rfl, rfl, rfl, by decide +kernel, rfl, by decide +kernel, by decide +kernel⟩
theorem sc_l_by_base : FnScope ["_law_which", "_law_value", "_law_e"] ["_law_which", "_law_value"] (defScope s_l_by_base) := ⟨rfl, rfl, rfl, by decide +kernel, rfl, by decide +kernel, by decide +kernel⟩
theorem sc_l_number_of : FnScope ["_law_which", "_law_value", "_law_e"] ["_law_which", "_law_value"] (defScope s_l_number_of) := ⟨rfl, rfl, rfl, by decide +kernel, rfl, by decide +kernel, by decide +kernel⟩
theorem sc_l_name_of : FnScope ["_law_which", "_law_value", "_law_e"] ["_law_which", "_law_value"] (defScope s_l_name_of) := ⟨rfl, rfl, rfl, by decide +kernel, rfl, by decide +kernel, by decide +kernel⟩
theorem sc_law : FnScope ["_law_script", "_law_bag_here", "_law_number", "_law_value", "_law_which", "_law_k"] ["_law_script"] (defScope s_law) := ⟨rfl, rfl, rfl, by decide +kernel, rfl, by decide +kernel, by decide +kernel⟩
/-! ### what the top leaves -/
def d_BadItem_init_ : He.DefD := ⟨("BadItem", some "__init__"), "__init__", "BadItem.__init__", defArgs s_BadItem_init_, defBody s_BadItem_init_, defScope s_BadItem_init_, [], []⟩
def d_BadForm_init_ : He.DefD := ⟨("BadForm", some "__init__"), "__init__", "BadForm.__init__", defArgs s_BadForm_init_, defBody s_BadForm_init_, defScope s_BadForm_init_, [], []⟩
def d_BadName_init_ : He.DefD := ⟨("BadName", some "__init__"), "__init__", "BadName.__init__", defArgs s_BadName_init_, defBody s_BadName_init_, defScope s_BadName_init_, [], []⟩
def d_Unknown_init_ : He.DefD := ⟨("Unknown", some "__init__"), "__init__", "Unknown.__init__", defArgs s_Unknown_init_, defBody s_Unknown_init_, defScope s_Unknown_init_, [], []⟩
def d_Missing_init_ : He.DefD := ⟨("Missing", some "__init__"), "__init__", "Missing.__init__", defArgs s_Missing_init_, defBody s_Missing_init_, defScope s_Missing_init_, [], []⟩
def d_BadValue_init_ : He.DefD := ⟨("BadValue", some "__init__"), "__init__", "BadValue.__init__", defArgs s_BadValue_init_, defBody s_BadValue_init_, defScope s_BadValue_init_, [], []⟩
def d_NotSingle_init_ : He.DefD := ⟨("NotSingle", some "__init__"), "__init__", "NotSingle.__init__", defArgs s_NotSingle_init_, defBody s_NotSingle_init_, defScope s_NotSingle_init_, [], []⟩
def d_NotWithin_init_ : He.DefD := ⟨("NotWithin", some "__init__"), "__init__", "NotWithin.__init__", defArgs s_NotWithin_init_, defBody s_NotWithin_init_, defScope s_NotWithin_init_, [], []⟩
def d_NoForm_init_ : He.DefD := ⟨("NoForm", some "__init__"), "__init__", "NoForm.__init__", defArgs s_NoForm_init_, defBody s_NoForm_init_, defScope s_NoForm_init_, [], []⟩
def d_BadNumber_init_ : He.DefD := ⟨("BadNumber", some "__init__"), "__init__", "BadNumber.__init__", defArgs s_BadNumber_init_, defBody s_BadNumber_init_, defScope s_BadNumber_init_, [], []⟩
def d_TooWide_init_ : He.DefD := ⟨("TooWide", some "__init__"), "__init__", "TooWide.__init__", defArgs s_TooWide_init_, defBody s_TooWide_init_, defScope s_TooWide_init_, [], []⟩
def d_BadShort_init_ : He.DefD := ⟨("BadShort", some "__init__"), "__init__", "BadShort.__init__", defArgs s_BadShort_init_, defBody s_BadShort_init_, defScope s_BadShort_init_, [], []⟩
def d_l_bag : He.DefD := ⟨("_law_bag", none), "_law_bag", "_law_bag", defArgs s_l_bag, defBody s_l_bag, defScope s_l_bag, [], []⟩
def d_l_draw : He.DefD := ⟨("_law_draw", none), "_law_draw", "_law_draw", defArgs s_l_draw, defBody s_l_draw, defScope s_l_draw, [], []⟩
def d_l_alphabet : He.DefD := ⟨("_law_alphabet", none), "_law_alphabet", "_law_alphabet", defArgs s_l_alphabet, defBody s_l_alphabet, defScope s_l_alphabet, [], []⟩
def d_l_letters : He.DefD := ⟨("_law_letters", none), "_law_letters", "_law_letters", defArgs s_l_letters, defBody s_l_letters, defScope s_l_letters, [], []⟩
def d_l_raise_plain : He.DefD := ⟨("_law_raise_plain", none), "_law_raise_plain", "_law_raise_plain", defArgs s_l_raise_plain, defBody s_l_raise_plain, defScope s_l_raise_plain, [], []⟩
def d_l_raise : He.DefD := ⟨("_law_raise", none), "_law_raise", "_law_raise", defArgs s_l_raise, defBody s_l_raise, defScope s_l_raise, [], []⟩
def d_l_classes : He.DefD := ⟨("_law_classes", none), "_law_classes", "_law_classes", defArgs s_l_classes, defBody s_l_classes, defScope s_l_classes, [], []⟩
def d_l_by_base : He.DefD := ⟨("_law_by_base", none), "_law_by_base", "_law_by_base", defArgs s_l_by_base, defBody s_l_by_base, defScope s_l_by_base, [], []⟩
def d_l_number_of : He.DefD := ⟨("_law_number_of", none), "_law_number_of", "_law_number_of", defArgs s_l_number_of, defBody s_l_number_of, defScope s_l_number_of, [], []⟩
def d_l_name_of : He.DefD := ⟨("_law_name_of", none), "_law_name_of", "_law_name_of", defArgs s_l_name_of, defBody s_l_name_of, defScope s_l_name_of, [], []⟩
def d_law : He.DefD := ⟨("law", none), "law", "law", defArgs s_law, defBody s_law, defScope s_law, [], []⟩
def fn : List He.DefD := [d_BadItem_init_, d_BadForm_init_, d_BadName_init_, d_Unknown_init_, d_Missing_init_, d_BadValue_init_, d_NotSingle_init_, d_NotWithin_init_, d_NoForm_init_, d_BadNumber_init_, d_TooWide_init_, d_BadShort_init_, d_l_bag, d_l_draw, d_l_alphabet, d_l_letters, d_l_raise_plain, d_l_raise, d_l_classes, d_l_by_base, d_l_number_of, d_l_name_of, d_law]
def fa : List He.Fa := [.glo "_law_bag", .glo "_law_draw", .glo "_law_alphabet", .glo "_law_letters", .glo "_law_raise_plain", .glo "_law_raise", .glo "_law_classes", .glo "_law_by_base", .glo "_law_number_of", .glo "_law_name_of", .glo "law", .glo "BadItem", .meth "BadItem" "__init__", .noat "BadItem" "at", .glo "BadForm", .meth "BadForm" "__init__", .noat "BadForm" "at", .glo "BadName", .meth "BadName" "__init__", .noat "BadName" "name", .glo "Unknown", .meth "Unknown" "__init__", .noat "Unknown" "name", .glo "Missing", .meth "Missing" "__init__", .noat "Missing" "name", .glo "BadValue", .meth "BadValue" "__init__", .noat "BadValue" "name", .glo "NotSingle", .meth "NotSingle" "__init__", .noat "NotSingle" "text", .glo "NotWithin", .meth "NotWithin" "__init__", .noat "NotWithin" "text", .glo "NoForm", .meth "NoForm" "__init__", .noat "NoForm" "name", .glo "BadNumber", .meth "BadNumber" "__init__", .noat "BadNumber" "number", .glo "TooWide", .meth "TooWide" "__init__", .noat "TooWide" "line", .glo "BadShort", .meth "BadShort" "__init__", .noat "BadShort" "name", .glo "TownError", .glo "BadSigns", .exc "BadSigns", .glo "BadText", .exc "BadText", .glo "BadKind", .exc "BadKind", .glo "NoReading", .exc "NoReading", .glo "TooMany", .exc "TooMany", .glo "TooLarge", .exc "TooLarge", .free "isinstance", .free "len", .free "int", .free "list", .free "range", .free "ValueError"]
def ex (K : PySem.W.Frag) : Bool := Tl.townB K cn 6
abbrev R : PySem.W.OpenRow := PySem.W.OpenLaw.row PySem.Challenge.rw_townlines_k07_errors_apart
abbrev hk : PySem.W.Hook := He.hookX 5 fa fn [] [] ex
def ob (s : PySem.W.SharedT) : He.AlX := He.obsX 5 fa fn [] [] ex (HandSHeadRun.getT s)
theorem ob_eq (s : PySem.W.SharedT) : ob s = hk.obs s.abs := He.obsX_eq (HandSHeadRun.getT_eq s)
abbrev loose : List PySem.Str := ["__name__", "TownError", "BadSigns", "BadText", "BadKind", "NoReading", "TooMany", "TooLarge", "BadItem", "BadForm", "BadName", "Unknown", "Missing", "BadValue", "NotSingle", "NotWithin", "NoForm", "BadNumber", "TooWide", "BadShort", "_law_bag", "_law_draw", "_law_alphabet", "_law_letters", "_law_raise_plain", "_law_raise", "_law_classes", "_law_by_base", "_law_number_of", "_law_name_of"]
set_option maxHeartbeats 0 in
theorem run (w : World) : HandSHeadRun.RunEq R (PySem.W.view R.prog [31]) hk ob 30000 loose w := by
  intro os
  kernel_rfl
end K07

/-! Texts as lists of codes: list(text), text * n, join of signs. -/
namespace Tl
open PySem PySem.Spec PyProof.Rows L2
/-- the text of these codes -/
def tx (l : List Nat) : Str := ⟨l.toArray⟩
def cs (z : Str) : List Nat := z.cps.toList
/-- the text of one sign -/
def sg (n : Nat) : Str := ⟨#[n]⟩
theorem cs_tx (l : List Nat) : cs (tx l) = l := rfl
theorem tx_cs (z : Str) : tx (cs z) = z := by
  obtain ⟨⟨l⟩⟩ := z
  rfl
theorem tx_inj {l k : List Nat} (h : tx l = tx k) : l = k := congrArg cs h
theorem tx_eq {l k : List Nat} : tx l = tx k ↔ l = k := ⟨tx_inj, fun e => by rw [e]⟩
theorem len_tx (l : List Nat) : (tx l).length = l.length := rfl
theorem len_cs (z : Str) : (cs z).length = z.length := Array.length_toList
theorem sg_inj {n m : Nat} (h : sg n = sg m) : n = m := by
  have e : [n] = [m] := congrArg cs h
  injection e
theorem tx_app (l k : List Nat) : tx l ++ tx k = tx (l ++ k) := by
  show (⟨l.toArray ++ k.toArray⟩ : Str) = ⟨(l ++ k).toArray⟩
  rw [List.append_toArray]
theorem glue_sg : ∀ (l : List Nat) (a : Array Nat), (l.map sg).foldl (fun acc p => acc ++ (tx []).cps ++ p.cps) a = a ++ l.toArray
  | [], a => by simp
  | n :: l, a => by
    rw [List.map_cons, List.foldl_cons, glue_sg l]
    simp [tx, sg]
theorem join_sg (l : List Nat) : Txt.join (tx []) (l.map sg) = tx l := by
  cases l with
  | nil => rfl
  | cons n l =>
    show (⟨((List.map sg (n :: l)).drop 1).foldl _ _⟩ : Str) = _
    rw [List.map_cons, List.drop_one, List.tail_cons, glue_sg]
    show (⟨#[n] ++ l.toArray⟩ : Str) = ⟨(n :: l).toArray⟩
    congr 1
    simp
theorem sum_sg (l : List Nat) : ((l.map sg).map (·.length)).sum = l.length := by
  induction l with
  | nil => rfl
  | cons n l ih =>
    rw [List.map_cons, List.map_cons, List.sum_cons, ih, List.length_cons]
    show 1 + l.length = l.length + 1
    omega
theorem fold_rep (x : Array Nat) : ∀ (k : Nat) (a : Array Nat), ((List.replicate k x).foldl (· ++ ·) a).toList = a.toList ++ (List.replicate k x.toList).flatten
  | 0, a => by simp
  | k + 1, a => by
    rw [List.replicate_succ, List.foldl_cons, fold_rep x k, List.replicate_succ, List.flatten_cons, Array.toList_append, List.append_assoc]
theorem mul_cs (z : Str) (k : Nat) : cs (Txt.mul z (k : Int)) = (List.replicate k (cs z)).flatten := by
  unfold Txt.mul
  by_cases h0 : (k : Int) < 1
  · rw [if_pos h0]
    have e : k = 0 := by omega
    subst e
    rfl
  · rw [if_neg h0]
    by_cases h1 : ((k : Int) == 1 || z.length == 0) = true
    · rw [if_pos h1]
      rcases Bool.or_eq_true_iff.mp h1 with e | e
      · have e : k = 1 := by
          have := beq_iff_eq.mp e
          omega
        subst e
        show cs z = (List.replicate 1 (cs z)).flatten
        simp [List.replicate]
      · have e1 : cs z = [] := by
          apply List.eq_nil_of_length_eq_zero
          rw [len_cs]
          exact beq_iff_eq.mp e
        rw [e1]
        induction k with
        | zero => rfl
        | succ k ih => simp
    · rw [if_neg h1]
      show ((List.replicate (k : Int).toNat z.cps).foldl (· ++ ·) #[]).toList = _
      rw [fold_rep, Int.toNat_natCast]
      rfl
section
variable {X : Cx}
/-- list(z), z a text -/
theorem call_listTx (hc : X.calm = true) : CallR X (.type "list") (fun vs H Q => ∃ l : List Nat, vs = [.str (tx l)] ∧ l.length ≤ sizeLine ∧ ∀ p, H p = none → Q (.ref p) (upd H p (.lst (l.map fun n => V.str (sg n))))) := by
  intro pins s σ H vs us Q I r h
  obtain ⟨l, rfl, hz, q⟩ := h
  obtain ⟨u, rfl, rx⟩ := vals1 r
  obtain ⟨t, rfl⟩ := rx
  refine call_list_str (I.ok.hd hc) (tx l) t (hn := hz) fun hq tk acc c hk hS hacc => ?_
  have hv : Vals (l.map fun n => V.str (sg n)) acc.toList := by
    have key : ∀ (k : List Nat) (us : List Value), us.length = k.length → (∀ (j : Nat) (v : Value), us[j]? = some v → ∃ (n : Nat) (u : Tok), k[j]? = some n ∧ v = Value.str (sg n) u) → Vals (k.map fun n => V.str (sg n)) us := by
      intro k
      induction k with
      | nil =>
        intro us hl _
        cases us with
        | nil => exact .nil
        | cons _ _ => cases hl
      | cons n k ih =>
        intro us hl h
        cases us with
        | nil => cases hl
        | cons v us =>
          obtain ⟨n', u, e1, e2⟩ := h 0 v rfl
          have e : n = n' := Option.some.inj e1
          subst e
          exact .cons ⟨u, e2⟩ (ih us (Nat.succ.inj hl) fun j v e => h (j + 1) v e)
    refine key l acc.toList (by rw [Array.length_toList]; exact hacc.1) fun j v e => ?_
    obtain ⟨n, u, e1, e2⟩ := hacc.2 j v (by rw [← Array.getElem?_toList]; exact e)
    exact ⟨n, u, by rw [← e1]; simp [tx], e2⟩
  exact ⟨.ref s.heap.objs.size, _, I.laid (t' := tk) hk (Nat.le_refl _) (show ObjOk X.prog X.w _ hq _ (.lst (l.map fun n => V.str (sg n))) from ⟨by rw [List.length_map]; exact hz, acc.toList, c, hv, by rw [Array.toArray_toList]; exact hS⟩), rfl, q _ (I.hok.fresh (Nat.le_refl _))⟩
/-- z * k -/
theorem op_mulTx : OpR X (binaryOp .Mult) (fun x y H Q => ∃ (l : List Nat) (k : Nat), x = .str (tx l) ∧ y = .int k ∧ k ≤ 1000000 ∧ l.length * k ≤ 16777216 ∧ Q (.str (tx (List.replicate k l).flatten)) H) := by
  intro pins s σ H x y v u Q I rx ry h
  obtain ⟨l, k, rfl, rfl, hk, hl, q⟩ := h
  obtain ⟨t, rfl⟩ := rx
  obtain ⟨t', rfl⟩ := ry
  have e : Txt.mul (tx l) (k : Int) = tx (List.replicate k l).flatten := by
    rw [← tx_cs (Txt.mul (tx l) (k : Int)), mul_cs, cs_tx]
  refine PySem.SB.mul (x := tx l) (n := (k : Int)) ⟨?_, fun h1 _ => ?_, fun h1 _ => ?_⟩ fun t2 tk => ?_
  · rw [decide_eq_false (by omega), decide_eq_false (by omega)]
    rfl
  · rw [len_tx]
    have h2 : 1 ≤ (k : Int) := by omega
    have h3 : (l.length : Int) ≤ 16777216 := by
      have : l.length ≤ l.length * k := Nat.le_mul_of_pos_right _ (by omega)
      omega
    have h4 : (16777216 : Int) ≤ (2 ^ 63 - 1) / (k : Int) := by
      apply Int.le_ediv_of_mul_le (by omega)
      omega
    omega
  · unfold Builtin.Str.tooLong
    rw [len_tx, Int.toNat_natCast, sizeLine_eq]
    exact decide_eq_false (by omega)
  · rw [e]
    exact ⟨.str (tx (List.replicate k l).flatten), H, I.tok tk, ⟨t2, rfl⟩, q⟩
end
end Tl

namespace K07
open PySem PySem.Spec PyProof.Rows L2 Tl
/-- a def of no defaults as the top leaves it -/
abbrev FnP (K : PySem.W.Frag) (x qual : Str) (st : Stmt) (f : Addr) (fd : FuncData) : Prop := FunD K x qual (defArgs st) (defBody st) (defScope st) [] [] f fd
/-! ### the bag that is drawn from -/
def bagL (c : Addr) (n m k : Int) : List V := [.ref c, .int n, .int m, .int k]
structure Bag (H : Hp) (b c : Addr) : Prop where
  top : ∃ n m k : Int, H b = some (.lst (bagL c n m k))
  cells : ∃ ns : List Int, H c = some (.lst (ns.map V.int))
theorem Bag.ne {H : Hp} {b c : Addr} (B : Bag H b c) : b ≠ c := fun e => by
  obtain ⟨n, m, k, h1⟩ := B.top
  obtain ⟨ns, h2⟩ := B.cells
  rw [e, h2] at h1
  have h3 := HO.lst.inj (Option.some.inj h1)
  cases ns with
  | nil => cases h3
  | cons x r =>
    injection h3 with h4 _
    cases h4
/-- all but the bag stands as it stood -/
def Kept (b c : Addr) (H H' : Hp) : Prop := ∀ x o, H x = some o → x ≠ b → x ≠ c → H' x = some o
theorem Kept.refl {b c : Addr} {H : Hp} : Kept b c H H := fun _ _ e _ _ => e
theorem Kept.trans {b c : Addr} {H1 H2 H3 : Hp} (h : Kept b c H1 H2) (k : Kept b c H2 H3) : Kept b c H1 H3 := fun x o e nb nc => k x o (h x o e nb nc) nb nc
theorem Kept.updB {b c : Addr} {H H' : Hp} {o : HO} (h : Kept b c H H') : Kept b c H (upd H' b o) := fun x u e nb nc => by
  rw [upd_ne nb]
  exact h x u e nb nc
theorem Kept.updC {b c : Addr} {H H' : Hp} {o : HO} (h : Kept b c H H') : Kept b c H (upd H' c o) := fun x u e nb nc => by
  rw [upd_ne nc]
  exact h x u e nb nc
theorem Kept.new {b c : Addr} {H H' : Hp} {o : HO} {p : Addr} (h : Kept b c H H') (hp : H p = none) : Kept b c H (upd H' p o) := fun x u e nb nc => by
  rw [upd_ne (ne_of_none e hp)]
  exact h x u e nb nc
theorem Bag.updB {H : Hp} {b c : Addr} {n m k : Int} (B : Bag H b c) : Bag (upd H b (.lst (bagL c n m k))) b c := ⟨⟨n, m, k, upd_same⟩, by
  obtain ⟨ns, h⟩ := B.cells
  exact ⟨ns, by rw [upd_ne (Ne.symm B.ne)]; exact h⟩⟩
theorem Bag.new {H : Hp} {b c p : Addr} {o : HO} (B : Bag H b c) (hp : H p = none) : Bag (upd H p o) b c := by
  obtain ⟨n, m, k, h1⟩ := B.top
  obtain ⟨ns, h2⟩ := B.cells
  exact ⟨⟨n, m, k, by rw [upd_ne (ne_of_none h1 hp)]; exact h1⟩, ⟨ns, by rw [upd_ne (ne_of_none h2 hp)]; exact h2⟩⟩
theorem seq0 (n : Nat) : seqIndex? 0 (n + 1) = some 0 := (ixN_seq (n := n + 1) (i := 0) (j := 0) (by unfold ixN; rw [if_pos (by decide), if_pos (by omega)]; rfl)).1
section
variable {P : Program} {w : World} {K : PySem.W.Frag} {mg : Str → Option Value} {base : Heap}
def spDraw : Sp := fun vs H Q _ => ∃ (b c : Addr) (lim : Int), vs = [.ref b, .int lim] ∧ Bag H b c ∧ 0 < lim ∧ lim.natAbs < 2 ^ 200 ∧ ∀ (r : Int) (H' : Hp), 0 ≤ r → r < lim → Bag H' b c → Kept b c H H' → Q (.int r) H'
theorem ok_draw {f : Addr} {fd : FuncData} (F : FnP K "_law_draw" "_law_draw" s_l_draw f fd) (ml : mg "len" = none) (mi : mg "int" = none) : FnOk P w K mg base CX0 1 f fd ["_law_bag_here", "_law_limit"] spDraw := by
  have nd := sc_l_draw.nd
  refine F.ok sc_l_draw (fun vs H Q E h => ?_) (fun cdv A outer s H vs Q E hr h => ?_)
  · obtain ⟨b, c, lim, rfl, _⟩ := h
    rfl
  · obtain ⟨b, c, lim, rfl, B, hl, hw, q⟩ := h
    refine ⟨_, PSs.nox (C8.pss_cut (ps_if (PW.pt (pw_and (pt_cmpR op_eq (pe_ix ix_list (pv 0) pe_int (fun _ _ => rfl)) pe_int (nomark _)) (pw_and1 (pt_cmpR op_gt (pe_callB call_len_seq (by rfl) ml PySem.boot_len (pa_cons (pe_ix ix_list (pv 0) pe_int (fun _ _ => rfl)) pa_nil)) pe_int (nomark _)))))
        (pss_cons (ps_set (i := 2) nd rfl (.inl rfl) (pe_bm PySem.F.plainAttrs_list PySem.F.slot_list_pop PySem.F.type_list_pop mt_popAt (pe_ix ix_list (pv 0) pe_int (fun _ _ => rfl)) (pa_cons pe_int pa_nil)))
        (pss_cons (ps_set (i := 3) nd rfl (.inl rfl) (pe_op op_mul pe_int (pv 2)))
        (C8.pss_cut (ps_if (pt_cmpR op_lt (pv 2) pe_int (nomark _)) (pss_one (ps_set (i := 3) nd rfl (.inl rfl) (pe_op op_sub (pe_op op_mul (pe_un un_neg pe_int) (pv 2)) pe_int))) pss_nil)
        (C8.pss_cut (ps_if (pt_cmpR op_ge (pv 3) (pe_op op_pow pe_int pe_int) (nomark _)) (pss_one (ps_asg (pv 3) (pg_sub (pv 0) pe_int set_list))) pss_nil)
        (pss_one (ps_asg (pe_op op_mod (pe_callTy call_int1 (by rfl) mi (by decide +kernel) (pa_cons (pe_op op_add (pe_op op_add (pe_op op_mul (pe_ix ix_list (pv 0) pe_int (fun _ _ => rfl)) pe_int) (pv 3)) pe_int) pa_nil)) pe_int) (pg_sub (pv 0) pe_int set_list)))))))
        pss_nil)
      (pss_cons (ps_if (pt_cmpR op_gt (pe_ix ix_list (pv 0) pe_int (fun _ _ => rfl)) pe_int (nomark _))
        (pss_cons (ps_set (i := 4) nd rfl (.inl rfl) (pe_op op_mod (pe_callTy call_int1 (by rfl) mi (by decide +kernel) (pa_cons (pe_ix ix_list (pv 0) pe_int (fun _ _ => rfl)) pa_nil)) (pv 1)))
        (pss_cons (ps_asg (pe_op op_fdivW (pe_ix ix_list (pv 0) pe_int (fun _ _ => rfl)) (pv 1)) (pg_sub (pv 0) pe_int set_list))
        (pss_one (ps_ret (pv 4))))) pss_nil)
      (pss_cons (ps_asg (pe_op op_add (pe_ix ix_list (pv 0) pe_int (fun _ _ => rfl)) pe_int) (pg_sub (pv 0) pe_int set_list))
      (pss_cons (ps_set (i := 5) nd rfl (.inl rfl) (pe_op op_mod (pe_callTy call_int1 (by rfl) mi (by decide +kernel) (pa_cons (pe_op op_mul (pe_op op_add (pe_op op_add (pe_ix ix_list (pv 0) pe_int (fun _ _ => rfl)) (pe_op op_mul pe_int (pe_ix ix_list (pv 0) pe_int (fun _ _ => rfl)))) pe_int) pe_int) pa_nil)) pe_int))
      (pss_cons (ps_set (i := 5) nd rfl (.inl rfl) (pe_op op_mod (pe_callTy call_int1 (by rfl) mi (by decide +kernel) (pa_cons (pe_op op_mul (pv 5) (pe_op op_add (pe_op op_fdiv (pv 5) pe_int) pe_int)) pa_nil)) pe_int))
      (pss_cons (ps_set (i := 5) nd rfl (.inl rfl) (pe_op op_mod (pe_callTy call_int1 (by rfl) mi (by decide +kernel) (pa_cons (pe_op op_mul (pv 5) (pe_op op_add (pe_op op_fdiv (pv 5) pe_int) pe_int)) pa_nil)) pe_int))
      (pss_one (ps_ret (pe_op op_mod (pe_callTy call_int1 (by rfl) mi (by decide +kernel) (pa_cons (pe_op op_fdiv (pv 5) pe_int) pa_nil)) (pv 1)))))))))), ?_⟩
    have at0 : ∀ (n m k : Int), atI (bagL c n m k) 0 = some (.ref c) := fun _ _ _ => rfl
    have at1 : ∀ (n m k : Int), atI (bagL c n m k) 1 = some (.int n) := fun _ _ _ => rfl
    have at2 : ∀ (n m k : Int), atI (bagL c n m k) 2 = some (.int m) := fun _ _ _ => rfl
    have at3 : ∀ (n m k : Int), atI (bagL c n m k) 3 = some (.int k) := fun _ _ _ => rfl
    refine ⟨fun σ' H' => ∃ x2 x3 x4 x5, σ' = [some (.ref b), some (.int lim), x2, x3, x4, x5] ∧ Bag H' b c ∧ Kept b c H H', ?_, ?_⟩
    · obtain ⟨n, m, k, hb⟩ := B.top
      obtain ⟨ns, hc⟩ := B.cells
      have nbc := B.ne
      have skip : ∃ x2 x3 x4 x5 : Option V, start ["_law_bag_here", "_law_limit", "_law_cell", "_law_number", "_law_drawn", "_law_one"] [V.ref b, V.int lim] = [some (.ref b), some (.int lim), x2, x3, x4, x5] ∧ Bag H b c ∧ Kept b c H H := ⟨none, none, none, none, rfl, B, Kept.refl⟩
      refine ⟨.ref b, rfl, b, _, 1, _, rfl, rfl, SqL.of hb, at1 n m k, rfl, _, rfl, ite2 (fun e1 => ?_) fun e1 => iteF skip⟩
      refine ⟨.ref b, rfl, b, _, 0, _, rfl, rfl, SqL.of hb, at0 n m k, c, _, rfl, .inl (SqL.of hc), _, _, rfl, rfl, _, rfl, ite2 (fun e2 => ?_) fun e2 => skip⟩
      obtain ⟨x, r, rfl⟩ : ∃ x r, ns = x :: r := by
        cases ns with
        | nil => exact absurd (of_decide_eq_true e2) (by simp)
        | cons x r => exact ⟨x, r, rfl⟩
      -- the first cell is taken
      refine ⟨.ref b, rfl, b, _, 0, _, rfl, rfl, SqL.of hb, at0 n m k, .inl ⟨rfl, _, SqL.of hc⟩, c, _, 0, 0, .int x, rfl, rfl, hc, by decide, by decide, seq0 _, rfl, ?_⟩
      have el : ((x :: r).map V.int).eraseIdx 0 = r.map V.int := rfl
      rw [el]
      generalize hH1 : upd H c (.lst (r.map V.int)) = H1
      have B1 : Bag H1 b c := by
        rw [← hH1]
        exact ⟨⟨n, m, k, by rw [upd_ne nbc]; exact hb⟩, ⟨r, upd_same⟩⟩
      have K1 : Kept b c H H1 := by
        rw [← hH1]
        exact Kept.refl.updC
      -- number = 2 * cell
      refine ⟨_, rfl, _, _, rfl, rfl, .inl (by decide), ?_⟩
      refine ⟨fun σ' H' => ∃ y : Int, σ' = [some (.ref b), some (.int lim), some (.int x), some (.int y), none, none] ∧ H' = H1, ?_, ?_⟩
      · refine ⟨_, rfl, _, _, rfl, rfl, _, rfl, ite2 (fun e3 => ?_) fun e3 => ⟨_, rfl, rfl⟩⟩
        refine ⟨_, rfl, _, rfl, _, _, rfl, rfl, .inl (by decide), _, _, rfl, rfl, ?_⟩
        exact ⟨_, rfl, rfl⟩
      · rintro σ' H' ⟨y, rfl, rfl⟩
        obtain ⟨n1, m1, k1, hb1⟩ := B1.top
        refine ⟨fun σ' H' => σ' = [some (.ref b), some (.int lim), some (.int x), some (.int y), none, none] ∧ Bag H' b c ∧ Kept b c H H', ?_, ?_⟩
        · refine ⟨_, rfl, _, _, rfl, rfl, ⟨by decide, by decide, by decide⟩, _, _, rfl, rfl, _, rfl, ite2 (fun e4 => ?_) fun e4 => ⟨rfl, B1, K1⟩⟩
          exact ⟨_, rfl, .ref b, rfl, b, _, 1, 1, rfl, rfl, hb1, rfl, rfl, B1.updB (n := y) (m := m1) (k := k1), K1.updB⟩
        · rintro σ' H' ⟨rfl, B2, K2⟩
          obtain ⟨n2, m2, k2, hb2⟩ := B2.top
          refine ⟨.ref b, rfl, b, _, 2, _, rfl, rfl, SqL.of hb2, at2 n2 m2 k2, _, _, rfl, rfl, .inr (by decide), _, rfl, _, _, rfl, rfl, _, _, rfl, rfl, .inl ⟨_, rfl, ?_⟩⟩
          refine ⟨_, _, rfl, rfl, (by show (0 : Int) < 2147483647; decide), .ref b, rfl, b, _, 2, 2, rfl, rfl, hb2, rfl, ?_⟩
          exact ⟨_, _, _, _, rfl, B2.updB, K2.updB⟩
    · rintro σ' H1 ⟨x2, x3, x4, x5, rfl, B1, K1⟩
      obtain ⟨n, m, k, hb⟩ := B1.top
      refine ⟨.ref b, rfl, b, _, 1, _, rfl, rfl, SqL.of hb, at1 n m k, _, _, rfl, rfl, _, rfl, ite2 (fun e1 => ?_) fun e1 => ?_⟩
      · refine ⟨.ref b, rfl, b, _, 1, _, rfl, rfl, SqL.of hb, at1 n m k, .inl ⟨_, rfl, ?_⟩⟩
        refine ⟨_, rfl, _, _, rfl, rfl, hl, ?_⟩
        refine ⟨.ref b, rfl, b, _, 1, _, rfl, rfl, SqL.of hb, at1 n m k, _, rfl, _, _, rfl, rfl, wide_div hl hw (by decide) (by decide), ?_⟩
        refine ⟨.ref b, rfl, b, _, 1, 1, rfl, rfl, hb, rfl, _, rfl, ?_⟩
        exact q _ _ (Int.emod_nonneg _ (by omega)) (Int.emod_lt_of_pos _ hl) B1.updB K1.updB
      · refine ⟨.ref b, rfl, b, _, 3, _, rfl, rfl, SqL.of hb, at3 n m k, _, _, rfl, rfl, .ref b, rfl, b, _, 3, 3, rfl, rfl, hb, rfl, ?_⟩
        have B2 : Bag (upd H1 b (.lst (bagL c n m (k + 1)))) b c := B1.updB
        have K2 : Kept b c H (upd H1 b (.lst (bagL c n m (k + 1)))) := K1.updB
        have hb2 : (upd H1 b (.lst (bagL c n m (k + 1)))) b = some (.lst (bagL c n m (k + 1))) := upd_same
        show _
        refine ⟨.ref b, rfl, b, _, 2, _, rfl, rfl, SqL.of hb2, at2 n m (k + 1), .ref b, rfl, b, _, 3, _, rfl, rfl, SqL.of hb2, at3 n m (k + 1), _, _, rfl, rfl, .inl (by decide), _, _, rfl, rfl, _, _, rfl, rfl, _, _, rfl, rfl, .inr (by decide), .inl ⟨_, rfl, ?_⟩⟩
        refine ⟨_, _, rfl, rfl, (by show (0 : Int) < 2147483647; decide), ?_⟩
        have z1 := Int.emod_nonneg ((m + 7919 * (k + 1) + 1) * 48271) (show (2147483647 : Int) ≠ 0 by decide)
        have z2 := Int.emod_lt_of_pos ((m + 7919 * (k + 1) + 1) * 48271) (show (0 : Int) < 2147483647 by decide)
        generalize ((m + 7919 * (k + 1) + 1) * 48271) % 2147483647 = o1 at z1 z2 ⊢
        refine ⟨_, rfl, _, rfl, _, _, rfl, rfl, ⟨by decide, by decide⟩, _, _, rfl, rfl, _, _, rfl, rfl, .inl ⟨by omega, by omega⟩, .inl ⟨_, rfl, ?_⟩⟩
        refine ⟨_, _, rfl, rfl, (by show (0 : Int) < 2147483647; decide), ?_⟩
        have y1 := Int.emod_nonneg (o1 * (o1 / 1009 + 69621)) (show (2147483647 : Int) ≠ 0 by decide)
        have y2 := Int.emod_lt_of_pos (o1 * (o1 / 1009 + 69621)) (show (0 : Int) < 2147483647 by decide)
        generalize (o1 * (o1 / 1009 + 69621)) % 2147483647 = o2 at y1 y2 ⊢
        refine ⟨_, rfl, _, rfl, _, _, rfl, rfl, ⟨by decide, by decide⟩, _, _, rfl, rfl, _, _, rfl, rfl, .inl ⟨by omega, by omega⟩, .inl ⟨_, rfl, ?_⟩⟩
        refine ⟨_, _, rfl, rfl, (by show (0 : Int) < 2147483399; decide), ?_⟩
        refine ⟨_, rfl, _, _, rfl, rfl, ⟨by decide, by decide⟩, .inl ⟨_, rfl, ?_⟩⟩
        refine ⟨_, rfl, _, _, rfl, rfl, hl, ?_⟩
        exact q _ _ (Int.emod_nonneg _ (by omega)) (Int.emod_lt_of_pos _ hl) B2 K2
end
end K07

/-! Comprehensions over the signs of a text. -/
namespace Tl
open PySem PySem.Spec PyProof.Rows L2
theorem upd_over {H : Hp} {p : Addr} {o u : HO} : upd (upd H p o) p u = upd H p u := funext fun x => by
  by_cases e : x = p
  · subst e
    rw [upd_same, upd_same]
  · rw [upd_ne e, upd_ne e, upd_ne e]
/-- [f c for c in text if p c]: i the slot of c, f and p told by the sign's code, the heap as it was -/
theorem lc_tx {te te' : TE} {tt : TT} {σ : L2.St} {H : Hp} {Q : VK} {l : List Nat} {p : Nat → Bool} {f : Nat → V} {i : Nat} (hl : l.length ≤ 1000000)
    (hte : ∀ Q' : VK, Q' (.str (tx l)) H → te σ H Q')
    (hw : ∀ x : V, wipe ((wipe σ [i]).set i (some x)) [i] = wipe σ [i])
    (ht : ∀ (n : Nat) (H2 : Hp) (Qb : Bool → Hp → Prop), n ∈ l → Qb (p n) H2 → tt ((wipe σ [i]).set i (some (.str (sg n)))) H2 Qb)
    (he : ∀ (n : Nat) (H2 : Hp) (Q' : VK), n ∈ l → Q' (f n) H2 → te' ((wipe σ [i]).set i (some (.str (sg n)))) H2 Q')
    (hq : ∀ D, H D = none → Q (.ref D) (upd H D (.lst ((l.filter p).map f)))) : tLc (iStr te) (gName i) tt te' [i] σ H Q := by
  refine hte _ ⟨tx l, rfl, fun D hD => ?_⟩
  refine lc_it (walk_str (z := tx l)) (fun j H' => H' = upd H D (.lst (((l.take j).filter p).map f))) rfl (fun _ _ _ _ => trivial) ?_ ?_
  · rintro j x H1 H' hj e1 ⟨e2, c, hc, rfl⟩
    subst e2
    subst e1
    have hc' : l[j]? = some c := by
      have e : (tx l).cps[j]? = l[j]? := by simp [tx]
      rw [← e]
      exact hc
    have hm : c ∈ l := List.mem_of_getElem? hc'
    have hlen : ((l.take j).filter p).length ≤ 1000000 := Nat.le_trans (List.length_filter_le _ _) (Nat.le_trans (by rw [List.length_take]; exact Nat.min_le_right _ _) hl)
    refine ⟨hw _, ht c _ _ hm ?_⟩
    cases hp : p c with
    | true =>
      refine iteT (he c _ _ hm ⟨_, upd_same, ?_, ?_⟩)
      · rw [List.length_map]
        exact Nat.lt_of_le_of_lt hlen (by rw [sizeLine_eq]; decide)
      · show upd (upd H D _) D _ = _
        rw [upd_over, List.take_add_one, hc', List.filter_append, List.map_append]
        simp [hp]
    | false =>
      refine iteF ?_
      show upd H D _ = upd H D _
      rw [List.take_add_one, hc', List.filter_append]
      simp [hp]
  · rintro H' rfl
    have e : l.take (tx l).cps.size = l := List.take_of_length_le (by simp [tx])
    rw [e]
    exact hq D hD
theorem cb_one {r : List V → Hp → VK → Prop} {ta : TE} {σ : L2.St} {H : Hp} {Q : VK} (h : ta σ H fun x H1 => r [x] H1 Q) : tCB r (tCons ta tNil) σ H Q := h
/-- what sep.join(xs) asks -/
abbrev rJoin (K : PySem.W.Frag) : V → List V → Hp → VK → Prop := fun x xs H Q => ∃ a p, ∃ ys : List Str, x = .str a ∧ xs = [.ref p] ∧ (SqL K H p (ys.map V.str) ∨ SqT K H p (ys.map V.str)) ∧ (ys.map (·.length)).sum + ys.length * a.length ≤ 16777216 ∧ Q (.str (Txt.join a ys)) H
theorem strs_sg (l : List Nat) : (l.map fun n => V.str (sg n)) = (l.map sg).map V.str := by
  rw [List.map_map]
  rfl
theorem join_rd {K : PySem.W.Frag} {p : Addr} {l : List Nat} {H : Hp} {Q : VK} (h : H p = some (.lst (l.map fun n => V.str (sg n)))) (hl : l.length ≤ 1000000) (q : Q (.str (tx l)) H) : rJoin K (.str (tx [])) [.ref p] H Q := by
  refine ⟨tx [], p, l.map sg, rfl, rfl, .inl (SqL.of (by rw [← strs_sg]; exact h)), ?_, ?_⟩
  · rw [sum_sg, len_tx, List.length_map]
    show l.length + l.length * 0 ≤ 16777216
    omega
  · rw [join_sg]
    exact q
/-- ''.join([c for c in text if p c]) -/
theorem join_tx {K : PySem.W.Frag} {z : Str} {te : TE} {tt : TT} {σ : L2.St} {H : Hp} {Q : VK} {l : List Nat} {p : Nat → Bool} {i : Nat} (hz : z = tx []) (hl : l.length ≤ 1000000)
    (hte : ∀ Q' : VK, Q' (.str (tx l)) H → te σ H Q')
    (hw : ∀ x : V, wipe ((wipe σ [i]).set i (some x)) [i] = wipe σ [i])
    (hv : ∀ x : V, ((wipe σ [i]).set i (some x))[i]? = some (some x))
    (ht : ∀ (n : Nat) (H2 : Hp) (Qb : Bool → Hp → Prop), n ∈ l → Qb (p n) H2 → tt ((wipe σ [i]).set i (some (.str (sg n)))) H2 Qb)
    (hq : ∀ H', Same H H' → Q (.str (tx (l.filter p))) H') : tM1 (rJoin K) (tC (.str z)) (tLc (iStr te) (gName i) tt (tVar i) [i]) σ H Q := by
  subst hz
  refine ⟨⟨_, rfl⟩, ?_⟩
  refine lc_tx (p := p) (f := fun n => .str (sg n)) hl hte hw ht (fun n H2 Q' _ q => ⟨_, hv _, q⟩) fun D hD => ?_
  refine join_rd upd_same (Nat.le_trans (List.length_filter_le _ _) hl) (hq _ fun b o e => ?_)
  rw [upd_ne (ne_of_none e hD)]
  exact e
/-- the same, the text made by a call that leaves all as it stood -/
theorem join_txG {K : PySem.W.Frag} {z : Str} {te : TE} {tt : TT} {σ : L2.St} {H : Hp} {Q : VK} {l : List Nat} {p : Nat → Bool} {i : Nat} (hz : z = tx []) (hl : l.length ≤ 1000000)
    (hte : ∀ Q' : VK, (∀ H1, Same H H1 → Q' (.str (tx l)) H1) → te σ H Q')
    (hw : ∀ x : V, wipe ((wipe σ [i]).set i (some x)) [i] = wipe σ [i])
    (hv : ∀ x : V, ((wipe σ [i]).set i (some x))[i]? = some (some x))
    (ht : ∀ (n : Nat) (H2 : Hp) (Qb : Bool → Hp → Prop), n ∈ l → Qb (p n) H2 → tt ((wipe σ [i]).set i (some (.str (sg n)))) H2 Qb)
    (hq : ∀ H', Same H H' → Q (.str (tx (l.filter p))) H') : tM1 (rJoin K) (tC (.str z)) (tLc (iStr te) (gName i) tt (tVar i) [i]) σ H Q := by
  subst hz
  refine ⟨⟨_, rfl⟩, hte _ fun H1 s1 => ?_⟩
  refine lc_tx (Q := fun y H2 => rJoin K (V.str (tx [])) [y] H2 Q) (te := tC (.str (tx l))) (te' := tVar i) (H := H1) (p := p) (f := fun n => .str (sg n)) hl (fun _ q => q) hw ht (fun n H2 Q' _ q => ⟨_, hv _, q⟩) fun D hD => ?_
  refine join_rd upd_same (Nat.le_trans (List.length_filter_le _ _) hl) (hq _ fun b o e => ?_)
  rw [upd_ne (ne_of_none (s1 _ _ e) hD)]
  exact s1 _ _ e
end Tl

namespace K07
open PySem PySem.Spec PyProof.Rows L2 Tl
theorem cut_ints (ns : List Int) (lo hi : Option Int) : ∃ ms : List Int, cutV (ns.map V.int) lo hi = ms.map V.int := by
  refine ⟨(ns.drop (HT.sIx (ns.map V.int).length 0 lo)).take (HT.sIx (ns.map V.int).length (ns.map V.int).length hi - HT.sIx (ns.map V.int).length 0 lo), ?_⟩
  unfold cutV
  rw [← List.map_drop, ← List.map_take]
theorem same_new {H : Hp} {p : Addr} {o : HO} (h : H p = none) : Same H (upd H p o) := fun b x e => by
  rw [upd_ne (ne_of_none e h)]
  exact e
theorem erase_map {α β : Type} (f : α → β) : ∀ (l : List α) (i : Nat), (l.map f).eraseIdx i = (l.eraseIdx i).map f
  | [], _ => rfl
  | _ :: _, 0 => rfl
  | x :: l, i + 1 => congrArg (f x :: ·) (erase_map f l i)
theorem erase_cons {α : Type} : ∀ (l : List α) (i : Nat) (h : i < l.length), List.Perm (l[i] :: l.eraseIdx i) l
  | [], i, h => absurd h (Nat.not_lt_zero i)
  | _ :: _, 0, _ => List.Perm.refl _
  | x :: l, i + 1, h => (List.Perm.swap x _ _).trans ((erase_cons l i (Nat.lt_of_succ_lt_succ h)).cons x)
/-- all the signs, by their codes -/
def alpha : List Nat := (List.range 95).filterMap fun i => if i = 5 then none else some (i + 32)
theorem alpha_len : alpha.length = 94 := by decide +kernel
theorem alpha_nodup : alpha.Nodup := by decide +kernel
theorem line_small {n : Nat} (h : n ≤ 16777216) : n ≤ sizeLine := by
  rw [sizeLine_eq]
  exact h
section
variable {P : Program} {w : World} {K : PySem.W.Frag} {mg : Str → Option Value} {base : Heap}
def spBag (K : PySem.W.Frag) : Sp := fun vs H Q _ => ∃ (a : Addr) (ns : List Int), vs = [.ref a] ∧ SqL K H a (ns.map V.int) ∧ ns.length ≤ 63 ∧ ∀ (b c : Addr) (H' : Hp), H b = none → H c = none → Bag H' b c → Same H H' → Q (.ref b) H'
theorem ok_bag {f : Addr} {fd : FuncData} (F : FnP K "_law_bag" "_law_bag" s_l_bag f fd) (ml : mg "list" = none) : FnOk P w K mg base CX0 1 f fd ["_law_script"] (spBag K) := by
  refine F.ok sc_l_bag (fun vs H Q E h => ?_) (fun cdv A outer s H vs Q E hr h => ?_)
  · obtain ⟨a, ns, rfl, _⟩ := h
    rfl
  · obtain ⟨a, ns, rfl, hS, hlen, q⟩ := h
    refine ⟨_, PSs.nox (pss_one (ps_ret (pe_lst (pa_cons (pe_callTy call_list_of (by rfl) ml (by decide +kernel) (pa_cons (pe_slice sl_list (pv 0) po_none (po_some pe_int)) pa_nil)) (pa_cons pe_int (pa_cons pe_int (pa_cons pe_int pa_nil))))))), ?_⟩
    refine ⟨.ref a, rfl, 63, rfl, a, _, rfl, hS, fun p hp => ?_⟩
    obtain ⟨ms, em⟩ := cut_ints ns none (some 63)
    rw [em]
    refine ⟨p, _, rfl, .inl (SqL.of upd_same), fun c hc => ?_⟩
    refine ⟨by show 4 ≤ sizeLine; exact line_small (by decide), fun b hb => ?_⟩
    have s1 : Same H (upd H p (.lst (ms.map V.int))) := same_new hp
    have s2 := s1.trans (same_new (o := .lst (ms.map V.int)) hc)
    have s3 := s2.trans (same_new (o := .lst [V.ref c, .int 0, .int 0, .int 0]) hb)
    have nbc : c ≠ b := ne_of_none upd_same hb
    refine q b c _ (s2.free hb) (s1.free hc) ⟨⟨0, 0, 0, upd_same⟩, ⟨ms, ?_⟩⟩ s3
    rw [upd_ne nbc, upd_same]
def spAlpha : Sp := fun vs H Q _ => vs = [] ∧ Q (.str (tx alpha)) H
theorem ok_alpha {f : Addr} {fd : FuncData} (F : FnP K "_law_alphabet" "_law_alphabet" s_l_alphabet f fd) : FnOk P w K mg base CX0 1 f fd [] spAlpha := by
  refine F.ok sc_l_alphabet (fun vs H Q E h => ?_) (fun cdv A outer s H vs Q E hr h => ?_)
  · obtain ⟨rfl, _⟩ := h
    rfl
  · obtain ⟨rfl, q⟩ := h
    refine ⟨_, PSs.nox (pss_cons (ps_set (i := 0) sc_l_alphabet.nd rfl (.inl rfl) pe_str) (pss_one (ps_ret (pe_op op_add_str (pv 0) pe_str)))), ?_⟩
    refine ⟨_, rfl, _, _, rfl, rfl, line_small (by decide +kernel), ?_⟩
    have e : ∀ z : Str, z = tx alpha → Q (.str z) H := fun z hz => by
      rw [hz]
      exact q
    exact e _ (by decide +kernel)
def lettersV (ls : List Nat) : List V := ls.map fun n => V.str (sg n)
def spLetters : Sp := fun vs H Q _ => ∃ (b c : Addr) (many : Int), vs = [.ref b, .int many] ∧ Bag H b c ∧ 0 ≤ many ∧ many ≤ 94 ∧
  ∀ (p : Addr) (ls : List Nat) (H' : Hp), (ls.length : Int) = many → ls.Nodup → (∀ x ∈ ls, x ∈ alpha) → H p = none → H' p = some (.lst (lettersV ls)) → Bag H' b c → Kept b c H H' → Q (.ref p) H'
theorem ok_letters {f fA fD : Addr} {fd fdA fdD : FuncData} (F : FnP K "_law_letters" "_law_letters" s_l_letters f fd) (ml : mg "list" = none) (mn : mg "len" = none) (mr : mg "range" = none)
    (GA : FnOk P w K mg base CX0 1 fA fdA [] spAlpha) (gA : mg "_law_alphabet" = some (.ref fA)) (kA : PySem.W.keepIn K (.ref fA) = true) (bA : Binds K fdA [] [])
    (GD : FnOk P w K mg base CX0 1 fD fdD ["_law_bag_here", "_law_limit"] spDraw) (gD : mg "_law_draw" = some (.ref fD)) (kD : PySem.W.keepIn K (.ref fD) = true) (bD : Binds K fdD ["_law_bag_here", "_law_limit"] []) :
    FnOk P w K mg base CX0 2 f fd ["_law_bag_here", "_law_many"] spLetters := by
  have nd := sc_l_letters.nd
  refine F.ok sc_l_letters (fun vs H Q E h => ?_) (fun cdv A outer s H vs Q E hr h => ?_)
  · obtain ⟨b, c, many, rfl, _⟩ := h
    rfl
  · obtain ⟨b, c, many, rfl, B, h0, h94, q⟩ := h
    refine ⟨_, PSs.nox (pss_cons (ps_set (i := 2) nd rfl (.inl rfl) (pe_callTy (call_listTx rfl) (by rfl) ml (by decide +kernel) (pa_cons (pe_call0 GA hr (by rfl) gA kA bA .nil pass0) pa_nil)))
      (pss_cons (ps_set (i := 3) nd rfl (.inl rfl) (pe_lst pa_nil))
      (pss_cons (ps_for PassesOwn.never rfl (pi_range1 rfl mr (pa_cons (pv 1) pa_nil)) (pg_name (i := 4) nd rfl (.inl rfl))
        (pss_one (ps_expr (pe_bm PySem.F.plainAttrs_list PySem.F.slot_list_append PySem.F.type_list_append mt_append (pv 3)
          (pa_cons (pe_bm PySem.F.plainAttrs_list PySem.F.slot_list_pop PySem.F.type_list_pop mt_popAt (pv 2)
            (pa_cons (pe_call GD hr (by rfl) gD kD bD .nil pass0 (pa_cons (pv 0) (pa_cons (pe_callB call_len_seq (by rfl) mn PySem.boot_len (pa_cons (pv 2) pa_nil)) pa_nil))) pa_nil)) pa_nil)))))
      (pss_one (ps_ret (pv 3)))))), ?_⟩
    -- rest, found
    refine ⟨rfl, alpha, rfl, line_small (by rw [alpha_len]; decide), fun r hr0 => ?_⟩
    refine ⟨Nat.zero_le _, fun p hp => ?_⟩
    have s1 : Same H (upd H r (.lst (alpha.map fun n => V.str (sg n)))) := same_new hr0
    have hp0 : H p = none := s1.free hp
    have nrp : r ≠ p := ne_of_none upd_same hp
    refine ⟨_, rfl, many, rfl, by omega, by omega, for_range (n := many.toNat) (fun i σ H' => ∃ (x4 : Option V) (ls rs : List Nat), σ = [some (.ref b), some (.int many), some (.ref r), some (.ref p), x4] ∧ H' r = some (.lst (lettersV rs)) ∧ H' p = some (.lst (lettersV ls)) ∧
      (ls ++ rs).Perm alpha ∧ ls.length = i ∧ Bag H' b c ∧ Kept b c H H') ?_ ?_ ?_⟩
    · refine ⟨none, [], alpha, rfl, ?_, upd_same, List.Perm.refl _, rfl, ((B.new hr0).new hp), (Kept.refl.new hr0).new hp0⟩
      rw [upd_ne nrp, upd_same]
      rfl
    · rintro i σ H1 hi ⟨x4, ls, rs, rfl, h1, h2, pm, el, B1, K1⟩
      have elen : ls.length + rs.length = 94 := by
        rw [← List.length_append, pm.length_eq, alpha_len]
      have hrl : 0 < rs.length := by omega
      refine ⟨.ref p, rfl, .inl ⟨rfl, _, SqL.of h2⟩, .ref r, rfl, .inl ⟨rfl, _, SqL.of h1⟩, .ref b, rfl, .ref r, rfl, r, _, rfl, .inl (SqL.of h1), ?_⟩
      refine ⟨b, c, _, rfl, B1, ?_, ?_, fun d H2 d0 d1 B2 K2 => ?_⟩
      · rw [show (lettersV rs).length = rs.length from List.length_map _]
        omega
      · rw [show (lettersV rs).length = rs.length from List.length_map _]
        show rs.length < 2 ^ 200
        exact Nat.lt_of_le_of_lt (show rs.length ≤ 94 by omega) (by decide)
      · rw [show (lettersV rs).length = rs.length from List.length_map _] at d1
        obtain ⟨n1, m1, k1, hb1⟩ := B.top
        obtain ⟨ns1, hc1⟩ := B.cells
        have nrb : r ≠ b := Ne.symm (ne_of_none hb1 hr0)
        have nrc : r ≠ c := Ne.symm (ne_of_none hc1 hr0)
        have npb : p ≠ b := Ne.symm (ne_of_none hb1 hp0)
        have npc : p ≠ c := Ne.symm (ne_of_none hc1 hp0)
        have g1 := K2 _ _ h1 nrb nrc
        have g2 := K2 _ _ h2 npb npc
        have hj : d.toNat < rs.length := by omega
        have hx : rs[d.toNat]? = some rs[d.toNat] := List.getElem?_eq_getElem hj
        have hgx : (lettersV rs)[d.toNat]? = some (.str (sg rs[d.toNat])) := by
          unfold lettersV
          rw [List.getElem?_map, hx]
          rfl
        have hsq : seqIndex? d (lettersV rs).length = some d.toNat := by
          refine (ixN_seq (n := (lettersV rs).length) (i := d) (j := d.toNat) ?_).1
          unfold ixN lettersV
          rw [List.length_map, if_pos d0, if_pos (by omega)]
        refine ⟨r, _, d, d.toNat, _, rfl, rfl, g1, by omega, by omega, hsq, hgx, ?_⟩
        have ee : (lettersV rs).eraseIdx d.toNat = lettersV (rs.eraseIdx d.toNat) := by
          unfold lettersV
          exact erase_map _ _ _
        rw [ee]
        refine ⟨p, _, _, rfl, rfl, (by rw [upd_ne (Ne.symm nrp)]; exact g2), ?_, ?_⟩
        · rw [show (lettersV ls).length = ls.length from List.length_map _]
          exact small1000 (by omega)
        · have ea : lettersV ls ++ [V.str (sg rs[d.toNat])] = lettersV (ls ++ [rs[d.toNat]]) := by
            unfold lettersV
            rw [List.map_append]
            rfl
          rw [ea]
          refine ⟨_, ls ++ [rs[d.toNat]], rs.eraseIdx d.toNat, rfl, by rw [upd_ne nrp, upd_same], upd_same, ?_, ?_, ?_, ?_⟩
          · rw [List.append_assoc]
            refine List.Perm.trans (List.Perm.append_left ls ?_) pm
            exact erase_cons rs d.toNat hj
          · rw [List.length_append, el]
            rfl
          · obtain ⟨n2, m2, k2, hb2⟩ := B2.top
            obtain ⟨ns2, hc2⟩ := B2.cells
            exact ⟨⟨n2, m2, k2, by rw [upd_ne (Ne.symm npb), upd_ne (Ne.symm nrb)]; exact hb2⟩, ⟨ns2, by rw [upd_ne (Ne.symm npc), upd_ne (Ne.symm nrc)]; exact hc2⟩⟩
          · exact ((K1.trans K2).new hr0).new hp0
    · rintro σ H1 ⟨x4, ls, rs, rfl, h1, h2, pm, el, B1, K1⟩
      refine ⟨_, rfl, q p ls H1 (by omega) ?_ (fun x hx => pm.mem_iff.mp (List.mem_append_left _ hx)) hp0 h2 B1 K1⟩
      exact (List.nodup_append.mp (pm.nodup_iff.mpr alpha_nodup)).1
end
end K07

namespace K07
open PySem PySem.Spec PyProof.Rows L2 Tl
/-! ### the eighteen classes -/
abbrev cC (K : PySem.W.Frag) (i : Nat) : Addr := cA K cn i
def fld : List Str := ["", "", "", "", "", "", "at", "at", "name", "name", "name", "name", "text", "text", "name", "number", "line", "name"]
/-- what the i-th error carries -/
def Carry (i : Nat) (v : V) (d : Option Addr) (H : Hp) : Prop := (i < 6 → d = none) ∧ (6 ≤ i → ∃ dd, d = some dd ∧ H dd = some (.xd [(fld.getD i "", v)]))
theorem Carry.dict {i : Nat} {v : V} {d : Option Addr} {H : Hp} (c : Carry i v d H) : ∀ dx, d = some dx → ∃ fs, H dx = some (.xd fs) := fun dx e => by
  by_cases h : i < 6
  · rw [c.1 h] at e
    cases e
  · obtain ⟨dd, e2, h2⟩ := c.2 (Nat.not_lt.mp h)
    rw [e] at e2
    cases e2
    exact ⟨_, h2⟩
/-- a class of no arguments -/
structure Plain (K : PySem.W.Frag) (mg : Str → Option Value) (x : Str) (C : Addr) : Prop where
  g : mg x = some (.ref C)
  e : PySem.W.excIn K C He.veBase "ValueError.__new__" = true
  k : PySem.W.keepIn K (.ref C) = true
  s : PySem.W.subIn K (.ref C) (.type "BaseException") = some true
  t : PySem.W.typeIn K (.ref C) = some (.type "type")
theorem vYes {i : Nat} {j : Int} (h : decide (V.int i = V.int j) = true) : (i : Int) = j := V.int.inj (of_decide_eq_true h)
theorem vNo {i : Nat} {j : Int} (h : ¬ decide (V.int i = V.int j) = true) : (i : Int) ≠ j := fun e => h (decide_eq_true (congrArg V.int e))
section
variable {P : Program} {w : World} {K : PySem.W.Frag} {mg : Str → Option Value} {base : Heap}
def spPlain (K : PySem.W.Frag) : Sp := fun vs H _ E => ∃ i : Nat, vs = [.int i] ∧ i < 6 ∧ E (.ref (cC K i)) none H
theorem pmk_plain {X : Cx} {x : Str} {C : Addr} {p pos : Pos} (h : Plain X.K X.mg x C) (hg : Gl X x) (hdb : (x == ("__debug__" : Str)) = false := by decide) : L2N.PMk X (.Call (.Name x p) [] [] pos) (fun _ H Q => Q (.ref C) none H) :=
  pmkN_own0 F.excBase_ValueError h.e h.g h.k (raises_own h.s h.t) hg hdb
theorem ok_plain {f : Addr} {fd : FuncData} (F : FnP K "_law_raise_plain" "_law_raise_plain" s_l_raise_plain f fd) (c0 : Plain K mg "BadSigns" (cC K 0)) (c1 : Plain K mg "BadText" (cC K 1)) (c2 : Plain K mg "BadKind" (cC K 2)) (c3 : Plain K mg "NoReading" (cC K 3))
    (c4 : Plain K mg "TooMany" (cC K 4)) (c5 : Plain K mg "TooLarge" (cC K 5)) : FnOk P w K mg base (L2N.CX P w) 1 f fd ["_law_which"] (spPlain K) := by
  refine F.ok sc_l_raise_plain (fun vs H Q E h => ?_) (fun cdv A outer s H vs Q E hr h => ?_)
  · obtain ⟨i, rfl, _⟩ := h
    rfl
  · obtain ⟨i, rfl, hi, q⟩ := h
    have tk := L2N.takes_of (X := cxOf (L2N.CX P w) P w K mg base ["_law_which"] "_law_raise_plain" (defScope s_l_raise_plain) f cdv A outer s H E) (E := E) rfl rfl rfl rfl
    refine ⟨_, pss_cons (ps_if (pt_cmpR op_eq (pv 0) pe_int (nomark _)) (pss_one (L2N.ps_raise rfl tk (pmk_plain c0 rfl))) pss_nil)
      (pss_cons (ps_if (pt_cmpR op_eq (pv 0) pe_int (nomark _)) (pss_one (L2N.ps_raise rfl tk (pmk_plain c1 rfl))) pss_nil)
      (pss_cons (ps_if (pt_cmpR op_eq (pv 0) pe_int (nomark _)) (pss_one (L2N.ps_raise rfl tk (pmk_plain c2 rfl))) pss_nil)
      (pss_cons (ps_if (pt_cmpR op_eq (pv 0) pe_int (nomark _)) (pss_one (L2N.ps_raise rfl tk (pmk_plain c3 rfl))) pss_nil)
      (pss_cons (ps_if (pt_cmpR op_eq (pv 0) pe_int (nomark _)) (pss_one (L2N.ps_raise rfl tk (pmk_plain c4 rfl))) pss_nil)
      (pss_one (L2N.ps_raise rfl tk (pmk_plain c5 rfl))))))), ?_⟩
    refine ⟨_, rfl, rfl, _, rfl, ite2 (fun e1 => ?_) fun e1 => ?_⟩
    · have z : i = 0 := by have := vYes e1; omega
      rw [z] at q
      exact q
    have n0 := vNo e1
    refine ⟨_, rfl, rfl, _, rfl, ite2 (fun e1 => ?_) fun e1 => ?_⟩
    · have z : i = 1 := by have := vYes e1; omega
      rw [z] at q
      exact q
    have n1 := vNo e1
    refine ⟨_, rfl, rfl, _, rfl, ite2 (fun e1 => ?_) fun e1 => ?_⟩
    · have z : i = 2 := by have := vYes e1; omega
      rw [z] at q
      exact q
    have n2 := vNo e1
    refine ⟨_, rfl, rfl, _, rfl, ite2 (fun e1 => ?_) fun e1 => ?_⟩
    · have z : i = 3 := by have := vYes e1; omega
      rw [z] at q
      exact q
    have n3 := vNo e1
    refine ⟨_, rfl, rfl, _, rfl, ite2 (fun e1 => ?_) fun e1 => ?_⟩
    · have z : i = 4 := by have := vYes e1; omega
      rw [z] at q
      exact q
    have n4 := vNo e1
    have z : i = 5 := by omega
    rw [z] at q
    exact q
def spIni (C : Addr) (f : Str) : Sp := fun vs H Q _ => ∃ (a : Addr) (v : V), vs = [.ref a, v] ∧ H a = some (exo a C none) ∧ ∀ dx, H dx = none → dx ≠ a → Q .non (upd (upd H dx (exd dx [(f, v)])) a (exo a C (some dx)))
/-- a class with an own __init__ -/
structure Ini (P : Program) (w : World) (K : PySem.W.Frag) (mg : Str → Option Value) (base : Heap) (x f : Str) (C : Addr) : Prop where
  g : mg x = some (.ref C)
  c : OexC K C
  i : ∃ (fI : Addr) (fd : FuncData), FnOk P w K mg base CX0 1 fI fd ["self", f] (spIni C f) ∧ PySem.W.findIn K (.ref C) "__init__" = some (some (.ref fI)) ∧ PySem.W.typeIn K (.ref fI) = some (.type "function") ∧ Binds K fd ["self", f] []
theorem pmk_ini {X : Cx} {x y f : Str} {C : Addr} {i : Nat} {p p2 pos : Pos} (h : Ini X.prog X.w X.K X.mg X.base x f C) (hr : Room 2 X.A) (hg : Gl X x) (hv : PE X (.Name y p2) (tVar i)) (hdb : (x == ("__debug__" : Str)) = false := by decide)
    (he : starEach [.Name y p2] X.env = (false, eval (.Name y p2) X.env) :: starEach [] X.env := by rfl) (hpl : (backTo pos (starEach [] X.env)).any (·.1) = false := by rfl) :
    L2N.PMk X (.Call (.Name x p) [.Name y p2] [] pos) (fun σ H Q => ∃ v, σ[i]? = some (some v) ∧ ∀ d H', Same H H' → H' d = some (.xd [(f, v)]) → Q (.ref C) (some d) H') := by
  obtain ⟨fI, fd, G, at_, ty, bd⟩ := h.i
  intro pins s σ H Q I q
  obtain ⟨v, ev, q⟩ := q
  refine pmkN_oex h.c at_ ty G hr bd pass0 hg h.g (pa_cons hv pa_nil) hdb he hpl pins s σ H Q I ⟨v, ev, ?_⟩
  refine ⟨by show 1 ≤ 1000; decide, fun a na => ⟨a, v, rfl, upd_same, fun dx nd ne => ⟨rfl, dx, [(f, v)], upd_same, ?_, ?_, q _ _ (fun b o e => ?_) upd_same⟩⟩⟩
  · rw [upd_ne ne, upd_same]
  · rw [upd_ne ne] at nd
    exact nd
  · rw [upd_ne ne] at nd
    have e1 : b ≠ dx := ne_of_none e nd
    have e2 : b ≠ a := ne_of_none e na
    rw [upd_ne e1, del_ne e2, upd_ne e2, upd_ne e1, upd_ne e2]
    exact e
theorem ok_BadItem {C f : Addr} {fd : FuncData} (F : FnP K "__init__" "BadItem.__init__" s_BadItem_init_ f fd) (T : OexC K C) (no : PySem.W.findIn K (.ref C) "at" = some none) : FnOk P w K mg base CX0 1 f fd ["self", "at"] (spIni C "at") := by
  refine F.ok sc_BadItem_init_ (fun vs H Q E h => ?_) (fun cdv A outer s H vs Q E hr h => ?_)
  · obtain ⟨a, v, rfl, _⟩ := h
    rfl
  · obtain ⟨a, v, rfl, e, q⟩ := h
    exact ⟨_, PSs.nox (pss_one (ps_ost (pv 0) (pv 1))), _, rfl, _, rfl, a, C, rfl, T, no, .inl ⟨e, q⟩⟩
theorem ok_BadForm {C f : Addr} {fd : FuncData} (F : FnP K "__init__" "BadForm.__init__" s_BadForm_init_ f fd) (T : OexC K C) (no : PySem.W.findIn K (.ref C) "at" = some none) : FnOk P w K mg base CX0 1 f fd ["self", "at"] (spIni C "at") := by
  refine F.ok sc_BadForm_init_ (fun vs H Q E h => ?_) (fun cdv A outer s H vs Q E hr h => ?_)
  · obtain ⟨a, v, rfl, _⟩ := h
    rfl
  · obtain ⟨a, v, rfl, e, q⟩ := h
    exact ⟨_, PSs.nox (pss_one (ps_ost (pv 0) (pv 1))), _, rfl, _, rfl, a, C, rfl, T, no, .inl ⟨e, q⟩⟩
theorem ok_BadName {C f : Addr} {fd : FuncData} (F : FnP K "__init__" "BadName.__init__" s_BadName_init_ f fd) (T : OexC K C) (no : PySem.W.findIn K (.ref C) "name" = some none) : FnOk P w K mg base CX0 1 f fd ["self", "name"] (spIni C "name") := by
  refine F.ok sc_BadName_init_ (fun vs H Q E h => ?_) (fun cdv A outer s H vs Q E hr h => ?_)
  · obtain ⟨a, v, rfl, _⟩ := h
    rfl
  · obtain ⟨a, v, rfl, e, q⟩ := h
    exact ⟨_, PSs.nox (pss_one (ps_ost (pv 0) (pv 1))), _, rfl, _, rfl, a, C, rfl, T, no, .inl ⟨e, q⟩⟩
theorem ok_Unknown {C f : Addr} {fd : FuncData} (F : FnP K "__init__" "Unknown.__init__" s_Unknown_init_ f fd) (T : OexC K C) (no : PySem.W.findIn K (.ref C) "name" = some none) : FnOk P w K mg base CX0 1 f fd ["self", "name"] (spIni C "name") := by
  refine F.ok sc_Unknown_init_ (fun vs H Q E h => ?_) (fun cdv A outer s H vs Q E hr h => ?_)
  · obtain ⟨a, v, rfl, _⟩ := h
    rfl
  · obtain ⟨a, v, rfl, e, q⟩ := h
    exact ⟨_, PSs.nox (pss_one (ps_ost (pv 0) (pv 1))), _, rfl, _, rfl, a, C, rfl, T, no, .inl ⟨e, q⟩⟩
theorem ok_Missing {C f : Addr} {fd : FuncData} (F : FnP K "__init__" "Missing.__init__" s_Missing_init_ f fd) (T : OexC K C) (no : PySem.W.findIn K (.ref C) "name" = some none) : FnOk P w K mg base CX0 1 f fd ["self", "name"] (spIni C "name") := by
  refine F.ok sc_Missing_init_ (fun vs H Q E h => ?_) (fun cdv A outer s H vs Q E hr h => ?_)
  · obtain ⟨a, v, rfl, _⟩ := h
    rfl
  · obtain ⟨a, v, rfl, e, q⟩ := h
    exact ⟨_, PSs.nox (pss_one (ps_ost (pv 0) (pv 1))), _, rfl, _, rfl, a, C, rfl, T, no, .inl ⟨e, q⟩⟩
theorem ok_BadValue {C f : Addr} {fd : FuncData} (F : FnP K "__init__" "BadValue.__init__" s_BadValue_init_ f fd) (T : OexC K C) (no : PySem.W.findIn K (.ref C) "name" = some none) : FnOk P w K mg base CX0 1 f fd ["self", "name"] (spIni C "name") := by
  refine F.ok sc_BadValue_init_ (fun vs H Q E h => ?_) (fun cdv A outer s H vs Q E hr h => ?_)
  · obtain ⟨a, v, rfl, _⟩ := h
    rfl
  · obtain ⟨a, v, rfl, e, q⟩ := h
    exact ⟨_, PSs.nox (pss_one (ps_ost (pv 0) (pv 1))), _, rfl, _, rfl, a, C, rfl, T, no, .inl ⟨e, q⟩⟩
theorem ok_NotSingle {C f : Addr} {fd : FuncData} (F : FnP K "__init__" "NotSingle.__init__" s_NotSingle_init_ f fd) (T : OexC K C) (no : PySem.W.findIn K (.ref C) "text" = some none) : FnOk P w K mg base CX0 1 f fd ["self", "text"] (spIni C "text") := by
  refine F.ok sc_NotSingle_init_ (fun vs H Q E h => ?_) (fun cdv A outer s H vs Q E hr h => ?_)
  · obtain ⟨a, v, rfl, _⟩ := h
    rfl
  · obtain ⟨a, v, rfl, e, q⟩ := h
    exact ⟨_, PSs.nox (pss_one (ps_ost (pv 0) (pv 1))), _, rfl, _, rfl, a, C, rfl, T, no, .inl ⟨e, q⟩⟩
theorem ok_NotWithin {C f : Addr} {fd : FuncData} (F : FnP K "__init__" "NotWithin.__init__" s_NotWithin_init_ f fd) (T : OexC K C) (no : PySem.W.findIn K (.ref C) "text" = some none) : FnOk P w K mg base CX0 1 f fd ["self", "text"] (spIni C "text") := by
  refine F.ok sc_NotWithin_init_ (fun vs H Q E h => ?_) (fun cdv A outer s H vs Q E hr h => ?_)
  · obtain ⟨a, v, rfl, _⟩ := h
    rfl
  · obtain ⟨a, v, rfl, e, q⟩ := h
    exact ⟨_, PSs.nox (pss_one (ps_ost (pv 0) (pv 1))), _, rfl, _, rfl, a, C, rfl, T, no, .inl ⟨e, q⟩⟩
theorem ok_NoForm {C f : Addr} {fd : FuncData} (F : FnP K "__init__" "NoForm.__init__" s_NoForm_init_ f fd) (T : OexC K C) (no : PySem.W.findIn K (.ref C) "name" = some none) : FnOk P w K mg base CX0 1 f fd ["self", "name"] (spIni C "name") := by
  refine F.ok sc_NoForm_init_ (fun vs H Q E h => ?_) (fun cdv A outer s H vs Q E hr h => ?_)
  · obtain ⟨a, v, rfl, _⟩ := h
    rfl
  · obtain ⟨a, v, rfl, e, q⟩ := h
    exact ⟨_, PSs.nox (pss_one (ps_ost (pv 0) (pv 1))), _, rfl, _, rfl, a, C, rfl, T, no, .inl ⟨e, q⟩⟩
theorem ok_BadNumber {C f : Addr} {fd : FuncData} (F : FnP K "__init__" "BadNumber.__init__" s_BadNumber_init_ f fd) (T : OexC K C) (no : PySem.W.findIn K (.ref C) "number" = some none) : FnOk P w K mg base CX0 1 f fd ["self", "number"] (spIni C "number") := by
  refine F.ok sc_BadNumber_init_ (fun vs H Q E h => ?_) (fun cdv A outer s H vs Q E hr h => ?_)
  · obtain ⟨a, v, rfl, _⟩ := h
    rfl
  · obtain ⟨a, v, rfl, e, q⟩ := h
    exact ⟨_, PSs.nox (pss_one (ps_ost (pv 0) (pv 1))), _, rfl, _, rfl, a, C, rfl, T, no, .inl ⟨e, q⟩⟩
theorem ok_TooWide {C f : Addr} {fd : FuncData} (F : FnP K "__init__" "TooWide.__init__" s_TooWide_init_ f fd) (T : OexC K C) (no : PySem.W.findIn K (.ref C) "line" = some none) : FnOk P w K mg base CX0 1 f fd ["self", "line"] (spIni C "line") := by
  refine F.ok sc_TooWide_init_ (fun vs H Q E h => ?_) (fun cdv A outer s H vs Q E hr h => ?_)
  · obtain ⟨a, v, rfl, _⟩ := h
    rfl
  · obtain ⟨a, v, rfl, e, q⟩ := h
    exact ⟨_, PSs.nox (pss_one (ps_ost (pv 0) (pv 1))), _, rfl, _, rfl, a, C, rfl, T, no, .inl ⟨e, q⟩⟩
theorem ok_BadShort {C f : Addr} {fd : FuncData} (F : FnP K "__init__" "BadShort.__init__" s_BadShort_init_ f fd) (T : OexC K C) (no : PySem.W.findIn K (.ref C) "name" = some none) : FnOk P w K mg base CX0 1 f fd ["self", "name"] (spIni C "name") := by
  refine F.ok sc_BadShort_init_ (fun vs H Q E h => ?_) (fun cdv A outer s H vs Q E hr h => ?_)
  · obtain ⟨a, v, rfl, _⟩ := h
    rfl
  · obtain ⟨a, v, rfl, e, q⟩ := h
    exact ⟨_, PSs.nox (pss_one (ps_ost (pv 0) (pv 1))), _, rfl, _, rfl, a, C, rfl, T, no, .inl ⟨e, q⟩⟩
end
end K07

namespace K07
open PySem PySem.Spec PyProof.Rows L2 Tl
/-- the twelve -/
structure Twelve (P : Program) (w : World) (K : PySem.W.Frag) (mg : Str → Option Value) (base : Heap) : Prop where
  h6 : Ini P w K mg base "BadItem" "at" (cC K 6)
  h7 : Ini P w K mg base "BadForm" "at" (cC K 7)
  h8 : Ini P w K mg base "BadName" "name" (cC K 8)
  h9 : Ini P w K mg base "Unknown" "name" (cC K 9)
  h10 : Ini P w K mg base "Missing" "name" (cC K 10)
  h11 : Ini P w K mg base "BadValue" "name" (cC K 11)
  h12 : Ini P w K mg base "NotSingle" "text" (cC K 12)
  h13 : Ini P w K mg base "NotWithin" "text" (cC K 13)
  h14 : Ini P w K mg base "NoForm" "name" (cC K 14)
  h15 : Ini P w K mg base "BadNumber" "number" (cC K 15)
  h16 : Ini P w K mg base "TooWide" "line" (cC K 16)
  h17 : Ini P w K mg base "BadShort" "name" (cC K 17)
/-- the names of all -/
structure Names18 (K : PySem.W.Frag) (mg : Str → Option Value) : Prop where
  g0 : mg "BadSigns" = some (.ref (cC K 0))
  g1 : mg "BadText" = some (.ref (cC K 1))
  g2 : mg "BadKind" = some (.ref (cC K 2))
  g3 : mg "NoReading" = some (.ref (cC K 3))
  g4 : mg "TooMany" = some (.ref (cC K 4))
  g5 : mg "TooLarge" = some (.ref (cC K 5))
  g6 : mg "BadItem" = some (.ref (cC K 6))
  g7 : mg "BadForm" = some (.ref (cC K 7))
  g8 : mg "BadName" = some (.ref (cC K 8))
  g9 : mg "Unknown" = some (.ref (cC K 9))
  g10 : mg "Missing" = some (.ref (cC K 10))
  g11 : mg "BadValue" = some (.ref (cC K 11))
  g12 : mg "NotSingle" = some (.ref (cC K 12))
  g13 : mg "NotWithin" = some (.ref (cC K 13))
  g14 : mg "NoForm" = some (.ref (cC K 14))
  g15 : mg "BadNumber" = some (.ref (cC K 15))
  g16 : mg "TooWide" = some (.ref (cC K 16))
  g17 : mg "BadShort" = some (.ref (cC K 17))
  gT : mg "TownError" = some (.ref (He.ga K "TownError"))
section
variable {P : Program} {w : World} {K : PySem.W.Frag} {mg : Str → Option Value} {base : Heap}
def spRaise (K : PySem.W.Frag) : Sp := fun vs H _ E => ∃ (i : Nat) (v : V), vs = [.int i, v] ∧ i < 18 ∧ ∀ d H', Same H H' → Carry i v d H' → E (.ref (cC K i)) d H'
theorem carried {i : Nat} {v : V} {d : Addr} {H : Hp} (hi : 6 ≤ i) (e : H d = some (.xd [(fld.getD i "", v)])) : Carry i v (some d) H := ⟨fun z => absurd z (Nat.not_lt.mpr hi), fun _ => ⟨d, rfl, e⟩⟩
set_option maxHeartbeats 8000000 in
theorem ok_raise {f fP : Addr} {fd fdP : FuncData} (F : FnP K "_law_raise" "_law_raise" s_l_raise f fd) (T : Twelve P w K mg base) (GP : FnOk P w K mg base (L2N.CX P w) 1 fP fdP ["_law_which"] (spPlain K)) (gP : mg "_law_raise_plain" = some (.ref fP))
    (kP : PySem.W.keepIn K (.ref fP) = true) (bP : Binds K fdP ["_law_which"] []) : FnOk P w K mg base (L2N.CX P w) 3 f fd ["_law_which", "_law_value"] (spRaise K) := by
  refine F.ok sc_l_raise (fun vs H Q E h => ?_) (fun cdv A outer s H vs Q E hr h => ?_)
  · obtain ⟨i, v, rfl, _⟩ := h
    rfl
  · obtain ⟨i, v, rfl, hi, q⟩ := h
    have tk := L2N.takes_of (X := cxOf (L2N.CX P w) P w K mg base ["_law_which", "_law_value"] "_law_raise" (defScope s_l_raise) f cdv A outer s H E) (E := E) rfl rfl rfl rfl
    refine ⟨_, pss_cons (ps_if (pt_cmpR op_lt (pv 0) pe_int (nomark _)) (pss_one (ps_expr (pe_callS GP (hr.mono (by decide)) (by rfl) gP kP bP (L2N.passAt tk) (pa_cons (pv 0) pa_nil)))) pss_nil)
      (pss_cons (ps_if (pt_cmpR op_eq (pv 0) pe_int (nomark _)) (pss_one (L2N.ps_raise rfl tk (pmk_ini T.h6 hr rfl (pv 1)))) pss_nil)
      (pss_cons (ps_if (pt_cmpR op_eq (pv 0) pe_int (nomark _)) (pss_one (L2N.ps_raise rfl tk (pmk_ini T.h7 hr rfl (pv 1)))) pss_nil)
      (pss_cons (ps_if (pt_cmpR op_eq (pv 0) pe_int (nomark _)) (pss_one (L2N.ps_raise rfl tk (pmk_ini T.h8 hr rfl (pv 1)))) pss_nil)
      (pss_cons (ps_if (pt_cmpR op_eq (pv 0) pe_int (nomark _)) (pss_one (L2N.ps_raise rfl tk (pmk_ini T.h9 hr rfl (pv 1)))) pss_nil)
      (pss_cons (ps_if (pt_cmpR op_eq (pv 0) pe_int (nomark _)) (pss_one (L2N.ps_raise rfl tk (pmk_ini T.h10 hr rfl (pv 1)))) pss_nil)
      (pss_cons (ps_if (pt_cmpR op_eq (pv 0) pe_int (nomark _)) (pss_one (L2N.ps_raise rfl tk (pmk_ini T.h11 hr rfl (pv 1)))) pss_nil)
      (pss_cons (ps_if (pt_cmpR op_eq (pv 0) pe_int (nomark _)) (pss_one (L2N.ps_raise rfl tk (pmk_ini T.h12 hr rfl (pv 1)))) pss_nil)
      (pss_cons (ps_if (pt_cmpR op_eq (pv 0) pe_int (nomark _)) (pss_one (L2N.ps_raise rfl tk (pmk_ini T.h13 hr rfl (pv 1)))) pss_nil)
      (pss_cons (ps_if (pt_cmpR op_eq (pv 0) pe_int (nomark _)) (pss_one (L2N.ps_raise rfl tk (pmk_ini T.h14 hr rfl (pv 1)))) pss_nil)
      (pss_cons (ps_if (pt_cmpR op_eq (pv 0) pe_int (nomark _)) (pss_one (L2N.ps_raise rfl tk (pmk_ini T.h15 hr rfl (pv 1)))) pss_nil)
      (pss_cons (ps_if (pt_cmpR op_eq (pv 0) pe_int (nomark _)) (pss_one (L2N.ps_raise rfl tk (pmk_ini T.h16 hr rfl (pv 1)))) pss_nil)
      (pss_one (L2N.ps_raise rfl tk (pmk_ini T.h17 hr rfl (pv 1))))))))))))))), ?_⟩
    refine ⟨_, rfl, _, _, rfl, rfl, _, rfl, ite2 (fun e1 => ?_) fun e1 => ?_⟩
    · have e2 := of_decide_eq_true e1
      exact ⟨_, rfl, i, rfl, by omega, q none H (Same.refl H) ⟨fun _ => rfl, fun z => absurd z (by omega)⟩⟩
    have n5 : ¬ ((i : Int) < 6) := fun z => e1 (decide_eq_true z)
    refine ⟨_, rfl, rfl, _, rfl, ite2 (fun e1 => ?_) fun e1 => ?_⟩
    · have z : i = 6 := by have := vYes e1; omega
      rw [z] at q
      exact ⟨v, rfl, fun d H' sm e => q _ _ sm (carried (by decide) e)⟩
    have n6 := vNo e1
    refine ⟨_, rfl, rfl, _, rfl, ite2 (fun e1 => ?_) fun e1 => ?_⟩
    · have z : i = 7 := by have := vYes e1; omega
      rw [z] at q
      exact ⟨v, rfl, fun d H' sm e => q _ _ sm (carried (by decide) e)⟩
    have n7 := vNo e1
    refine ⟨_, rfl, rfl, _, rfl, ite2 (fun e1 => ?_) fun e1 => ?_⟩
    · have z : i = 8 := by have := vYes e1; omega
      rw [z] at q
      exact ⟨v, rfl, fun d H' sm e => q _ _ sm (carried (by decide) e)⟩
    have n8 := vNo e1
    refine ⟨_, rfl, rfl, _, rfl, ite2 (fun e1 => ?_) fun e1 => ?_⟩
    · have z : i = 9 := by have := vYes e1; omega
      rw [z] at q
      exact ⟨v, rfl, fun d H' sm e => q _ _ sm (carried (by decide) e)⟩
    have n9 := vNo e1
    refine ⟨_, rfl, rfl, _, rfl, ite2 (fun e1 => ?_) fun e1 => ?_⟩
    · have z : i = 10 := by have := vYes e1; omega
      rw [z] at q
      exact ⟨v, rfl, fun d H' sm e => q _ _ sm (carried (by decide) e)⟩
    have n10 := vNo e1
    refine ⟨_, rfl, rfl, _, rfl, ite2 (fun e1 => ?_) fun e1 => ?_⟩
    · have z : i = 11 := by have := vYes e1; omega
      rw [z] at q
      exact ⟨v, rfl, fun d H' sm e => q _ _ sm (carried (by decide) e)⟩
    have n11 := vNo e1
    refine ⟨_, rfl, rfl, _, rfl, ite2 (fun e1 => ?_) fun e1 => ?_⟩
    · have z : i = 12 := by have := vYes e1; omega
      rw [z] at q
      exact ⟨v, rfl, fun d H' sm e => q _ _ sm (carried (by decide) e)⟩
    have n12 := vNo e1
    refine ⟨_, rfl, rfl, _, rfl, ite2 (fun e1 => ?_) fun e1 => ?_⟩
    · have z : i = 13 := by have := vYes e1; omega
      rw [z] at q
      exact ⟨v, rfl, fun d H' sm e => q _ _ sm (carried (by decide) e)⟩
    have n13 := vNo e1
    refine ⟨_, rfl, rfl, _, rfl, ite2 (fun e1 => ?_) fun e1 => ?_⟩
    · have z : i = 14 := by have := vYes e1; omega
      rw [z] at q
      exact ⟨v, rfl, fun d H' sm e => q _ _ sm (carried (by decide) e)⟩
    have n14 := vNo e1
    refine ⟨_, rfl, rfl, _, rfl, ite2 (fun e1 => ?_) fun e1 => ?_⟩
    · have z : i = 15 := by have := vYes e1; omega
      rw [z] at q
      exact ⟨v, rfl, fun d H' sm e => q _ _ sm (carried (by decide) e)⟩
    have n15 := vNo e1
    refine ⟨_, rfl, rfl, _, rfl, ite2 (fun e1 => ?_) fun e1 => ?_⟩
    · have z : i = 16 := by have := vYes e1; omega
      rw [z] at q
      exact ⟨v, rfl, fun d H' sm e => q _ _ sm (carried (by decide) e)⟩
    have n16 := vNo e1
    have z : i = 17 := by omega
    rw [z] at q
    exact ⟨v, rfl, fun d H' sm e => q _ _ sm (carried (by decide) e)⟩
end
end K07

namespace K07
open PySem PySem.Spec PyProof.Rows L2 Tl
open L2N (Zn)
section
variable {P : Program} {w : World} {K : PySem.W.Frag} {mg : Str → Option Value} {base : Heap}
def flags (i : Nat) : List V := (List.range 18).map fun j => V.bl (decide (i = j))
/-- the exception p, the i-th, its dict known -/
def Err (K : PySem.W.Frag) (p : Addr × Obj) (i : Nat) (H : Hp) : Prop := ∃ d, Zn (.ref (cC K i)) d p.2 ∧ (∃ ws, p.2.data = .fields ws) ∧ ∀ dx, d = some dx → ∃ fs, H dx = some (.xd fs)
def four (i k : Nat) : List V := [.bl (decide (i = k)), .bl (decide (i = k + 1)), .bl (decide (i = k + 2)), .bl (decide (i = k + 3))]
def spCl (K : PySem.W.Frag) (p : Addr × Obj) : Sp := fun vs H Q _ => ∃ i : Nat, vs = [.ref p.1] ∧ i < 18 ∧ Err K p i H ∧ ∀ l H', Same H H' → H l = none → H' l = some (.lst (flags i)) → Q (.ref l) H'
theorem ok_classes {f : Addr} {fd : FuncData} (F : FnP K "_law_classes" "_law_classes" s_l_classes f fd) (T : Town K cn 6) (N : Names18 K mg) (mi : mg "isinstance" = none) : FnHP P w K mg base CX0 1 f fd ["_law_e"] (spCl K) := by
  obtain ⟨oc, od, dV, kV, doc, pm, an, cdv, ct, osl, rfl, lk, hcd, _, _⟩ := F.ex
  refine fn_ofHP lk hcd sc_l_classes (fun p vs H Q E h => ?_) fun p A outer s H vs Q E hot hr h => ?_
  · obtain ⟨i, rfl, _⟩ := h
    rfl
  · obtain ⟨i, rfl, hi, er, q⟩ := h
    have nd := sc_l_classes.nd
    have hp : p ∈ (L2H.cxH CX0 P w K mg base ["_law_e", "_law_first", "_law_second", "_law_third", "_law_fourth"] "_law_classes" (defScope s_l_classes) f cdv A outer s H E p).pn := List.mem_cons_self
    refine ⟨_, pss_cons (ps_set (i := 1) nd rfl (.inl rfl) (pe_lst (pa_cons (pe_callB (call_isP hp) (by rfl) mi (by decide +kernel) (pa_cons (pv 0) (pa_cons (pe_glob (v := .ref (cC K 0)) rfl N.g0 rfl) pa_nil))) (pa_cons (pe_callB (call_isP hp) (by rfl) mi (by decide +kernel) (pa_cons (pv 0) (pa_cons (pe_glob (v := .ref (cC K 1)) rfl N.g1 rfl) pa_nil))) (pa_cons (pe_callB (call_isP hp) (by rfl) mi (by decide +kernel) (pa_cons (pv 0) (pa_cons (pe_glob (v := .ref (cC K 2)) rfl N.g2 rfl) pa_nil))) (pa_cons (pe_callB (call_isP hp) (by rfl) mi (by decide +kernel) (pa_cons (pv 0) (pa_cons (pe_glob (v := .ref (cC K 3)) rfl N.g3 rfl) pa_nil))) pa_nil))))))
      (pss_cons (ps_set (i := 2) nd rfl (.inl rfl) (pe_lst (pa_cons (pe_callB (call_isP hp) (by rfl) mi (by decide +kernel) (pa_cons (pv 0) (pa_cons (pe_glob (v := .ref (cC K 4)) rfl N.g4 rfl) pa_nil))) (pa_cons (pe_callB (call_isP hp) (by rfl) mi (by decide +kernel) (pa_cons (pv 0) (pa_cons (pe_glob (v := .ref (cC K 5)) rfl N.g5 rfl) pa_nil))) (pa_cons (pe_callB (call_isP hp) (by rfl) mi (by decide +kernel) (pa_cons (pv 0) (pa_cons (pe_glob (v := .ref (cC K 6)) rfl N.g6 rfl) pa_nil))) (pa_cons (pe_callB (call_isP hp) (by rfl) mi (by decide +kernel) (pa_cons (pv 0) (pa_cons (pe_glob (v := .ref (cC K 7)) rfl N.g7 rfl) pa_nil))) pa_nil))))))
      (pss_cons (ps_set (i := 3) nd rfl (.inl rfl) (pe_lst (pa_cons (pe_callB (call_isP hp) (by rfl) mi (by decide +kernel) (pa_cons (pv 0) (pa_cons (pe_glob (v := .ref (cC K 8)) rfl N.g8 rfl) pa_nil))) (pa_cons (pe_callB (call_isP hp) (by rfl) mi (by decide +kernel) (pa_cons (pv 0) (pa_cons (pe_glob (v := .ref (cC K 9)) rfl N.g9 rfl) pa_nil))) (pa_cons (pe_callB (call_isP hp) (by rfl) mi (by decide +kernel) (pa_cons (pv 0) (pa_cons (pe_glob (v := .ref (cC K 10)) rfl N.g10 rfl) pa_nil))) (pa_cons (pe_callB (call_isP hp) (by rfl) mi (by decide +kernel) (pa_cons (pv 0) (pa_cons (pe_glob (v := .ref (cC K 11)) rfl N.g11 rfl) pa_nil))) pa_nil))))))
      (pss_cons (ps_set (i := 4) nd rfl (.inl rfl) (pe_lst (pa_cons (pe_callB (call_isP hp) (by rfl) mi (by decide +kernel) (pa_cons (pv 0) (pa_cons (pe_glob (v := .ref (cC K 12)) rfl N.g12 rfl) pa_nil))) (pa_cons (pe_callB (call_isP hp) (by rfl) mi (by decide +kernel) (pa_cons (pv 0) (pa_cons (pe_glob (v := .ref (cC K 13)) rfl N.g13 rfl) pa_nil))) (pa_cons (pe_callB (call_isP hp) (by rfl) mi (by decide +kernel) (pa_cons (pv 0) (pa_cons (pe_glob (v := .ref (cC K 14)) rfl N.g14 rfl) pa_nil))) (pa_cons (pe_callB (call_isP hp) (by rfl) mi (by decide +kernel) (pa_cons (pv 0) (pa_cons (pe_glob (v := .ref (cC K 15)) rfl N.g15 rfl) pa_nil))) pa_nil))))))
      (pss_one (ps_ret (pe_op op_cat (pe_op op_cat (pe_op op_cat (pe_op op_cat (pv 1) (pv 2)) (pv 3)) (pv 4)) (pe_lst (pa_cons (pe_callB (call_isP hp) (by rfl) mi (by decide +kernel) (pa_cons (pv 0) (pa_cons (pe_glob (v := .ref (cC K 16)) rfl N.g16 rfl) pa_nil))) (pa_cons (pe_callB (call_isP hp) (by rfl) mi (by decide +kernel) (pa_cons (pv 0) (pa_cons (pe_glob (v := .ref (cC K 17)) rfl N.g17 rfl) pa_nil))) pa_nil))))))))), ?_⟩
    obtain ⟨d, z, fz, hd0⟩ := er
    have s0 := Same.refl H
    have keep : ∀ {H1 : Hp}, Same H H1 → ∀ dx, d = some dx → ∃ fs, H1 dx = some (.xd fs) := fun s dx e => by
      obtain ⟨fs, g⟩ := hd0 dx e
      exact ⟨fs, s _ _ g⟩
    have z4 : (4 : Nat) ≤ sizeLine := line_small (by decide)
    refine ⟨_, rfl, cC K i, d, .ref (cC K 0), .ref (cC K 0), decide (i = 0), rfl, T.exc i hi, z, fz, (keep s0), fun _ r => r, T.is i 0 hi (by decide), ?_⟩
    refine ⟨_, rfl, cC K i, d, .ref (cC K 1), .ref (cC K 1), decide (i = 1), rfl, T.exc i hi, z, fz, (keep s0), fun _ r => r, T.is i 1 hi (by decide), ?_⟩
    refine ⟨_, rfl, cC K i, d, .ref (cC K 2), .ref (cC K 2), decide (i = 2), rfl, T.exc i hi, z, fz, (keep s0), fun _ r => r, T.is i 2 hi (by decide), ?_⟩
    refine ⟨_, rfl, cC K i, d, .ref (cC K 3), .ref (cC K 3), decide (i = 3), rfl, T.exc i hi, z, fz, (keep s0), fun _ r => r, T.is i 3 hi (by decide), ?_⟩
    refine ⟨z4, fun l0 f0 => ?_⟩
    have k0 := same_new (o := .lst (four i 0)) f0
    have s1 := s0.trans k0
    refine ⟨_, rfl, cC K i, d, .ref (cC K 4), .ref (cC K 4), decide (i = 4), rfl, T.exc i hi, z, fz, (keep s1), fun _ r => r, T.is i 4 hi (by decide), ?_⟩
    refine ⟨_, rfl, cC K i, d, .ref (cC K 5), .ref (cC K 5), decide (i = 5), rfl, T.exc i hi, z, fz, (keep s1), fun _ r => r, T.is i 5 hi (by decide), ?_⟩
    refine ⟨_, rfl, cC K i, d, .ref (cC K 6), .ref (cC K 6), decide (i = 6), rfl, T.exc i hi, z, fz, (keep s1), fun _ r => r, T.is i 6 hi (by decide), ?_⟩
    refine ⟨_, rfl, cC K i, d, .ref (cC K 7), .ref (cC K 7), decide (i = 7), rfl, T.exc i hi, z, fz, (keep s1), fun _ r => r, T.is i 7 hi (by decide), ?_⟩
    refine ⟨z4, fun l1 f1 => ?_⟩
    have k1 := same_new (o := .lst (four i 4)) f1
    have s2 := s1.trans k1
    refine ⟨_, rfl, cC K i, d, .ref (cC K 8), .ref (cC K 8), decide (i = 8), rfl, T.exc i hi, z, fz, (keep s2), fun _ r => r, T.is i 8 hi (by decide), ?_⟩
    refine ⟨_, rfl, cC K i, d, .ref (cC K 9), .ref (cC K 9), decide (i = 9), rfl, T.exc i hi, z, fz, (keep s2), fun _ r => r, T.is i 9 hi (by decide), ?_⟩
    refine ⟨_, rfl, cC K i, d, .ref (cC K 10), .ref (cC K 10), decide (i = 10), rfl, T.exc i hi, z, fz, (keep s2), fun _ r => r, T.is i 10 hi (by decide), ?_⟩
    refine ⟨_, rfl, cC K i, d, .ref (cC K 11), .ref (cC K 11), decide (i = 11), rfl, T.exc i hi, z, fz, (keep s2), fun _ r => r, T.is i 11 hi (by decide), ?_⟩
    refine ⟨z4, fun l2 f2 => ?_⟩
    have k2 := same_new (o := .lst (four i 8)) f2
    have s3 := s2.trans k2
    refine ⟨_, rfl, cC K i, d, .ref (cC K 12), .ref (cC K 12), decide (i = 12), rfl, T.exc i hi, z, fz, (keep s3), fun _ r => r, T.is i 12 hi (by decide), ?_⟩
    refine ⟨_, rfl, cC K i, d, .ref (cC K 13), .ref (cC K 13), decide (i = 13), rfl, T.exc i hi, z, fz, (keep s3), fun _ r => r, T.is i 13 hi (by decide), ?_⟩
    refine ⟨_, rfl, cC K i, d, .ref (cC K 14), .ref (cC K 14), decide (i = 14), rfl, T.exc i hi, z, fz, (keep s3), fun _ r => r, T.is i 14 hi (by decide), ?_⟩
    refine ⟨_, rfl, cC K i, d, .ref (cC K 15), .ref (cC K 15), decide (i = 15), rfl, T.exc i hi, z, fz, (keep s3), fun _ r => r, T.is i 15 hi (by decide), ?_⟩
    refine ⟨z4, fun l3 f3 => ?_⟩
    have k3 := same_new (o := .lst (four i 12)) f3
    have s4 := s3.trans k3
    have g0 := k3 _ _ (k2 _ _ (k1 _ _ (upd_same (H := H) (a := l0) (o := .lst (four i 0)))))
    have g1 := k3 _ _ (k2 _ _ (upd_same (H := upd H l0 (.lst (four i 0))) (a := l1) (o := .lst (four i 4))))
    have g2 := k3 _ _ (upd_same (H := upd (upd H l0 (.lst (four i 0))) l1 (.lst (four i 4))) (a := l2) (o := .lst (four i 8)))
    have g3 := upd_same (H := upd (upd (upd H l0 (.lst (four i 0))) l1 (.lst (four i 4))) l2 (.lst (four i 8))) (a := l3) (o := .lst (four i 12))
    refine ⟨_, rfl, _, rfl, l0, l1, four i 0, four i 4, rfl, rfl, g0, g1, line_small (by show 8 ≤ 16777216; decide), fun p1 h1 => ?_⟩
    have m1 := same_new (o := .lst (four i 0 ++ four i 4)) h1
    refine ⟨_, rfl, p1, l2, _, four i 8, rfl, rfl, upd_same, m1 _ _ g2, line_small (by show 12 ≤ 16777216; decide), fun p2 h2 => ?_⟩
    have m2 := same_new (o := .lst (four i 0 ++ four i 4 ++ four i 8)) h2
    refine ⟨_, rfl, p2, l3, _, four i 12, rfl, rfl, upd_same, m2 _ _ (m1 _ _ g3), line_small (by show 16 ≤ 16777216; decide), fun p3 h3 => ?_⟩
    have m3 := same_new (o := .lst (four i 0 ++ four i 4 ++ four i 8 ++ four i 12)) h3
    have s7 := ((s4.trans m1).trans m2).trans m3
    refine ⟨_, rfl, cC K i, d, .ref (cC K 16), .ref (cC K 16), decide (i = 16), rfl, T.exc i hi, z, fz, (keep s7), fun _ r => r, T.is i 16 hi (by decide), ?_⟩
    refine ⟨_, rfl, cC K i, d, .ref (cC K 17), .ref (cC K 17), decide (i = 17), rfl, T.exc i hi, z, fz, (keep s7), fun _ r => r, T.is i 17 hi (by decide), ?_⟩
    refine ⟨line_small (by show 2 ≤ 16777216; decide), fun l5 f5 => ?_⟩
    have m5 := same_new (o := .lst [.bl (decide (i = 16)), .bl (decide (i = 17))]) f5
    refine ⟨p3, l5, _, [.bl (decide (i = 16)), .bl (decide (i = 17))], rfl, rfl, m5 _ _ upd_same, upd_same, line_small (by show 18 ≤ 16777216; decide), fun l6 f6 => ?_⟩
    have s8 := s7.trans m5
    exact q l6 _ (s8.trans (same_new f6)) (s8.free f6) upd_same
end
end K07

namespace Tl
open PySem PySem.Spec PyProof.Rows L2
open L2N (Zn)
/-- isinstance by a word that doesn't name the object -/
def rIsA (K : PySem.W.Frag) (a : Addr) (cls : Value) (d : Option Addr) : List V → Hp → VK → Prop := fun xs H Q => ∃ (D : Addr) (c : V) (cv : Value) (b : Bool), cls = .ref D ∧ xs = [.ref a, c] ∧ ExcC K D ∧ (∀ dx, d = some dx → ∃ fs, H dx = some (.xd fs)) ∧
  (∀ u, RelV c u → u = cv) ∧ PySem.W.kitOne K (.ref D) cv = some b ∧ Q (.bl b) H
theorem call_isA {X : Cx} {K : PySem.W.Frag} {a : Addr} {oe : Obj} {cls : Value} {d : Option Addr} (eK : X.K = K) (hp : (a, oe) ∈ X.pn) (z : Zn cls d oe) (f : ∃ vs, oe.data = .fields vs) : CallR X (.builtin "isinstance") (rIsA K a cls d) := fun pins s σ H xs us Q I r h => by
  subst eK
  obtain ⟨D, c, cv, b, rfl, e, C, hd, hc, hk, q⟩ := h
  exact call_isP hp pins s σ H xs us Q I r ⟨D, d, c, cv, b, e, C, z, f, hd, hc, hk, q⟩
end Tl
namespace K07
open PySem PySem.Spec PyProof.Rows L2 Tl
open L2N (Zn)
theorem nothingOut {X : Cx} : L2N.Takes X (fun _ _ _ _ => False) := fun _ _ x => by
  obtain ⟨_, _, _, _, _, _, _, _, _, _, _, _, _, _, _, _, w⟩ := x
  exact w.elim
section
variable {P : Program} {w : World} {K : PySem.W.Frag} {mg : Str → Option Value} {base : Heap}
def spClA (K : PySem.W.Frag) (a : Addr) (cls : Value) (d : Option Addr) : Sp := fun vs H Q _ => ∃ i : Nat, vs = [.ref a] ∧ cls = .ref (cC K i) ∧ i < 18 ∧ (∀ dx, d = some dx → ∃ fs, H dx = some (.xd fs)) ∧ ∀ l H', Same H H' → H l = none → H' l = some (.lst (flags i)) → Q (.ref l) H'
theorem weakCl {a : Addr} {oe : Obj} {cls : Value} {d : Option Addr} (z : Zn cls d oe) (f : ∃ vs, oe.data = .fields vs) : ∀ vs H Q E, spClA K a cls d vs H Q E → spCl K (a, oe) vs H Q E := fun vs H Q E h => by
  obtain ⟨i, e, rfl, hi, hd, q⟩ := h
  exact ⟨i, e, hi, ⟨d, z, f, hd⟩, q⟩
def spBase : Sp := fun vs H Q _ => ∃ (i : Nat) (v : V), vs = [.int i, v] ∧ i < 18 ∧ ∀ l H', Same H H' → H l = none → H' l = some (.lst (flags i)) → Q (.ref l) H'
theorem ok_by_base {f fR fC : Addr} {fd fdR fdC : FuncData} (F : FnP K "_law_by_base" "_law_by_base" s_l_by_base f fd) (T : Town K cn 6) (N : Names18 K mg) (mi : mg "isinstance" = none) (mv : mg "ValueError" = none)
    (GR : FnOk P w K mg base (L2N.CX P w) 3 fR fdR ["_law_which", "_law_value"] (spRaise K)) (gR : mg "_law_raise" = some (.ref fR)) (kR : PySem.W.keepIn K (.ref fR) = true) (bR : Binds K fdR ["_law_which", "_law_value"] [])
    (GC : FnHP P w K mg base CX0 1 fC fdC ["_law_e"] (spCl K)) (gC : mg "_law_classes" = some (.ref fC)) (kC : PySem.W.keepIn K (.ref fC) = true) (bC : Binds K fdC ["_law_e"] []) :
    FnOk P w K mg base CX0 4 f fd ["_law_which", "_law_value"] spBase := by
  refine F.ok sc_l_by_base (fun vs H Q E h => ?_) (fun cdv A outer s H vs Q E hr h => ?_)
  · obtain ⟨i, v, rfl, _⟩ := h
    rfl
  · obtain ⟨i, v, rfl, hi, q⟩ := h
    have nd := sc_l_by_base.nd
    have hr1 := hr.mono (show 1 ≤ 3 by decide)
    refine ⟨_, pss_cons (ps_try_named (l := [(.ref (He.ga K "TownError"), 2, _)]) rfl rfl nd (nothingOut)
      (fun W pn xe tk _ => pss_one (ps_expr (pe_callS GR (hr.mono (by decide)) (by rfl) gR kR bR (L2N.passAt tk) (pa_cons (pv 0) (pa_cons (pv 1) pa_nil)))))
      (Clauses.more ⟨rfl, by decide, .inl N.gT⟩ rfl rfl (fun a oe cls d pn z fz =>
        pss_cons (ps_if (pt_not (pt_val (pe_callB (call_isA (K := K) rfl List.mem_cons_self z fz) (by rfl) mi (by decide +kernel) (pa_cons (pv 2) (pa_cons (pe_bltn (v := .ty "ValueError") (by rfl) mv (by decide +kernel) rfl) pa_nil)))))
          (pss_one (ps_ret (pe_lst pa_nil))) pss_nil)
        (pss_one (ps_ret (pe_callHP GC (weakCl z fz) ⟨hr1.dp, hr1.un⟩ (hotP_suite z fz) (by rfl) gC kC bC (E := fun _ _ _ _ => True) (fun _ _ _ _ _ _ _ h => h.elim) (pa_cons (pv 2) pa_nil))))) Clauses.none))
      (pss_one (ps_ret (pe_lst pa_nil))), ?_⟩
    refine ⟨_, rfl, _, rfl, i, v, rfl, hi, fun d H' sm ca => ⟨true, T.base i hi, (fun z => by cases z), fun _ a na => ?_⟩⟩
    refine ⟨_, rfl, cC K i, .ty "ValueError", .type "ValueError", true, rfl, rfl, T.exc i hi, ca.dict, fun _ r => r, T.ve i hi, ?_⟩
    refine ⟨true, rfl, ?_⟩
    exact ⟨_, rfl, i, rfl, rfl, hi, ca.dict, fun l H2 sm2 f e => q l H2 (sm.trans sm2) (sm.free f) e⟩
theorem look1 {f : Str} {v : V} : [(f, v)].lookup f = some v := by simp [List.lookup]
structure NoAt (K : PySem.W.Frag) : Prop where
  n6 : PySem.W.findIn K (.ref (cC K 6)) "at" = some none
  n7 : PySem.W.findIn K (.ref (cC K 7)) "at" = some none
  n8 : PySem.W.findIn K (.ref (cC K 8)) "name" = some none
  n9 : PySem.W.findIn K (.ref (cC K 9)) "name" = some none
  n10 : PySem.W.findIn K (.ref (cC K 10)) "name" = some none
  n11 : PySem.W.findIn K (.ref (cC K 11)) "name" = some none
  n12 : PySem.W.findIn K (.ref (cC K 12)) "text" = some none
  n13 : PySem.W.findIn K (.ref (cC K 13)) "text" = some none
  n14 : PySem.W.findIn K (.ref (cC K 14)) "name" = some none
  n15 : PySem.W.findIn K (.ref (cC K 15)) "number" = some none
  n16 : PySem.W.findIn K (.ref (cC K 16)) "line" = some none
  n17 : PySem.W.findIn K (.ref (cC K 17)) "name" = some none
def sp_number : Sp := fun vs H Q _ => ∃ (i : Nat) (v : V), vs = [.int i, v] ∧ i ∈ [6, 7, 12, 13, 15, 16] ∧ ∀ l H', Same H H' → H l = none → H' l = some (.tup [.int i, v]) → Q (.ref l) H'
theorem ok_number {f fR : Addr} {fd fdR : FuncData} (F : FnP K "_law_number_of" "_law_number_of" s_l_number_of f fd) (T : Town K cn 6) (N : Names18 K mg) (A0 : NoAt K)
    (GR : FnOk P w K mg base (L2N.CX P w) 3 fR fdR ["_law_which", "_law_value"] (spRaise K)) (gR : mg "_law_raise" = some (.ref fR)) (kR : PySem.W.keepIn K (.ref fR) = true) (bR : Binds K fdR ["_law_which", "_law_value"] []) :
    FnOk P w K mg base CX0 4 f fd ["_law_which", "_law_value"] sp_number := by
  refine F.ok sc_l_number_of (fun vs H Q E h => ?_) (fun cdv A outer s H vs Q E hr h => ?_)
  · obtain ⟨i, v, rfl, _⟩ := h
    rfl
  · obtain ⟨i, v, rfl, mem, q⟩ := h
    have nd := sc_l_number_of.nd
    have hi : i < 18 := by
      rcases List.mem_cons.mp mem with rfl | mem
      · decide
      rcases List.mem_cons.mp mem with rfl | mem
      · decide
      rcases List.mem_cons.mp mem with rfl | mem
      · decide
      rcases List.mem_cons.mp mem with rfl | mem
      · decide
      rcases List.mem_cons.mp mem with rfl | mem
      · decide
      rcases List.mem_cons.mp mem with rfl | mem
      · decide
      cases mem
    refine ⟨_, pss_cons (ps_try_named (l := [(.ref (cC K 6), 2, _), (.ref (cC K 7), 2, _), (.ref (cC K 12), 2, _), (.ref (cC K 13), 2, _), (.ref (cC K 15), 2, _), (.ref (cC K 16), 2, _)]) rfl rfl nd (nothingOut)
      (fun W pn xe tk _ => pss_one (ps_expr (pe_callS GR (hr.mono (by decide)) (by rfl) gR kR bR (L2N.passAt tk) (pa_cons (pv 0) (pa_cons (pv 1) pa_nil)))))
      (Clauses.more ⟨rfl, by decide, .inl N.g6⟩ rfl rfl (fun a oe cls d pn z fz => pss_one (ps_ret (pe_tup (pa_cons pe_int (pa_cons (pe_xf (T.fld 6 (by decide) (by decide)) A0.n6 z.zc fz (pv 2)) pa_nil)))))
      (Clauses.more ⟨rfl, by decide, .inl N.g7⟩ rfl rfl (fun a oe cls d pn z fz => pss_one (ps_ret (pe_tup (pa_cons pe_int (pa_cons (pe_xf (T.fld 7 (by decide) (by decide)) A0.n7 z.zc fz (pv 2)) pa_nil)))))
      (Clauses.more ⟨rfl, by decide, .inl N.g12⟩ rfl rfl (fun a oe cls d pn z fz => pss_one (ps_ret (pe_tup (pa_cons pe_int (pa_cons (pe_xf (T.fld 12 (by decide) (by decide)) A0.n12 z.zc fz (pv 2)) pa_nil)))))
      (Clauses.more ⟨rfl, by decide, .inl N.g13⟩ rfl rfl (fun a oe cls d pn z fz => pss_one (ps_ret (pe_tup (pa_cons pe_int (pa_cons (pe_xf (T.fld 13 (by decide) (by decide)) A0.n13 z.zc fz (pv 2)) pa_nil)))))
      (Clauses.more ⟨rfl, by decide, .inl N.g15⟩ rfl rfl (fun a oe cls d pn z fz => pss_one (ps_ret (pe_tup (pa_cons pe_int (pa_cons (pe_xf (T.fld 15 (by decide) (by decide)) A0.n15 z.zc fz (pv 2)) pa_nil)))))
      (Clauses.more ⟨rfl, by decide, .inl N.g16⟩ rfl rfl (fun a oe cls d pn z fz => pss_one (ps_ret (pe_tup (pa_cons pe_int (pa_cons (pe_xf (T.fld 16 (by decide) (by decide)) A0.n16 z.zc fz (pv 2)) pa_nil)))))
      Clauses.none)))))))
      (pss_one (ps_ret (pe_tup (pa_cons pe_int (pa_cons pe_non pa_nil))))), ?_⟩
    refine ⟨_, rfl, _, rfl, i, v, rfl, hi, fun d H' sm ca => ?_⟩
    refine ⟨decide (i = 6), T.ca i 6 hi (by decide), (fun no => ?_), fun yes a na => ?_⟩
    rotate_left
    · have e : i = 6 := of_decide_eq_true yes
      subst e
      obtain ⟨dd, rfl, g⟩ := ca.2 (by decide)
      exact ⟨_, rfl, rfl, rfl, dd, _, v, rfl, g, look1, line_small (by show 2 ≤ 16777216; decide), fun p hp => q p _ (sm.trans (same_new hp)) (sm.free hp) upd_same⟩
    have n6 := of_decide_eq_false no
    refine ⟨decide (i = 7), T.ca i 7 hi (by decide), (fun no => ?_), fun yes a na => ?_⟩
    rotate_left
    · have e : i = 7 := of_decide_eq_true yes
      subst e
      obtain ⟨dd, rfl, g⟩ := ca.2 (by decide)
      exact ⟨_, rfl, rfl, rfl, dd, _, v, rfl, g, look1, line_small (by show 2 ≤ 16777216; decide), fun p hp => q p _ (sm.trans (same_new hp)) (sm.free hp) upd_same⟩
    have n7 := of_decide_eq_false no
    refine ⟨decide (i = 12), T.ca i 12 hi (by decide), (fun no => ?_), fun yes a na => ?_⟩
    rotate_left
    · have e : i = 12 := of_decide_eq_true yes
      subst e
      obtain ⟨dd, rfl, g⟩ := ca.2 (by decide)
      exact ⟨_, rfl, rfl, rfl, dd, _, v, rfl, g, look1, line_small (by show 2 ≤ 16777216; decide), fun p hp => q p _ (sm.trans (same_new hp)) (sm.free hp) upd_same⟩
    have n12 := of_decide_eq_false no
    refine ⟨decide (i = 13), T.ca i 13 hi (by decide), (fun no => ?_), fun yes a na => ?_⟩
    rotate_left
    · have e : i = 13 := of_decide_eq_true yes
      subst e
      obtain ⟨dd, rfl, g⟩ := ca.2 (by decide)
      exact ⟨_, rfl, rfl, rfl, dd, _, v, rfl, g, look1, line_small (by show 2 ≤ 16777216; decide), fun p hp => q p _ (sm.trans (same_new hp)) (sm.free hp) upd_same⟩
    have n13 := of_decide_eq_false no
    refine ⟨decide (i = 15), T.ca i 15 hi (by decide), (fun no => ?_), fun yes a na => ?_⟩
    rotate_left
    · have e : i = 15 := of_decide_eq_true yes
      subst e
      obtain ⟨dd, rfl, g⟩ := ca.2 (by decide)
      exact ⟨_, rfl, rfl, rfl, dd, _, v, rfl, g, look1, line_small (by show 2 ≤ 16777216; decide), fun p hp => q p _ (sm.trans (same_new hp)) (sm.free hp) upd_same⟩
    have n15 := of_decide_eq_false no
    refine ⟨decide (i = 16), T.ca i 16 hi (by decide), (fun no => ?_), fun yes a na => ?_⟩
    rotate_left
    · have e : i = 16 := of_decide_eq_true yes
      subst e
      obtain ⟨dd, rfl, g⟩ := ca.2 (by decide)
      exact ⟨_, rfl, rfl, rfl, dd, _, v, rfl, g, look1, line_small (by show 2 ≤ 16777216; decide), fun p hp => q p _ (sm.trans (same_new hp)) (sm.free hp) upd_same⟩
    have n16 := of_decide_eq_false no
    simp at mem
    omega
def sp_name : Sp := fun vs H Q _ => ∃ (i : Nat) (v : V), vs = [.int i, v] ∧ i ∈ [8, 9, 10, 11, 14, 17] ∧ ∀ l H', Same H H' → H l = none → H' l = some (.tup [.int i, v]) → Q (.ref l) H'
theorem ok_name {f fR : Addr} {fd fdR : FuncData} (F : FnP K "_law_name_of" "_law_name_of" s_l_name_of f fd) (T : Town K cn 6) (N : Names18 K mg) (A0 : NoAt K)
    (GR : FnOk P w K mg base (L2N.CX P w) 3 fR fdR ["_law_which", "_law_value"] (spRaise K)) (gR : mg "_law_raise" = some (.ref fR)) (kR : PySem.W.keepIn K (.ref fR) = true) (bR : Binds K fdR ["_law_which", "_law_value"] []) :
    FnOk P w K mg base CX0 4 f fd ["_law_which", "_law_value"] sp_name := by
  refine F.ok sc_l_name_of (fun vs H Q E h => ?_) (fun cdv A outer s H vs Q E hr h => ?_)
  · obtain ⟨i, v, rfl, _⟩ := h
    rfl
  · obtain ⟨i, v, rfl, mem, q⟩ := h
    have nd := sc_l_name_of.nd
    have hi : i < 18 := by
      rcases List.mem_cons.mp mem with rfl | mem
      · decide
      rcases List.mem_cons.mp mem with rfl | mem
      · decide
      rcases List.mem_cons.mp mem with rfl | mem
      · decide
      rcases List.mem_cons.mp mem with rfl | mem
      · decide
      rcases List.mem_cons.mp mem with rfl | mem
      · decide
      rcases List.mem_cons.mp mem with rfl | mem
      · decide
      cases mem
    refine ⟨_, pss_cons (ps_try_named (l := [(.ref (cC K 8), 2, _), (.ref (cC K 9), 2, _), (.ref (cC K 10), 2, _), (.ref (cC K 11), 2, _), (.ref (cC K 14), 2, _), (.ref (cC K 17), 2, _)]) rfl rfl nd (nothingOut)
      (fun W pn xe tk _ => pss_one (ps_expr (pe_callS GR (hr.mono (by decide)) (by rfl) gR kR bR (L2N.passAt tk) (pa_cons (pv 0) (pa_cons (pv 1) pa_nil)))))
      (Clauses.more ⟨rfl, by decide, .inl N.g8⟩ rfl rfl (fun a oe cls d pn z fz => pss_one (ps_ret (pe_tup (pa_cons pe_int (pa_cons (pe_xf (T.fld 8 (by decide) (by decide)) A0.n8 z.zc fz (pv 2)) pa_nil)))))
      (Clauses.more ⟨rfl, by decide, .inl N.g9⟩ rfl rfl (fun a oe cls d pn z fz => pss_one (ps_ret (pe_tup (pa_cons pe_int (pa_cons (pe_xf (T.fld 9 (by decide) (by decide)) A0.n9 z.zc fz (pv 2)) pa_nil)))))
      (Clauses.more ⟨rfl, by decide, .inl N.g10⟩ rfl rfl (fun a oe cls d pn z fz => pss_one (ps_ret (pe_tup (pa_cons pe_int (pa_cons (pe_xf (T.fld 10 (by decide) (by decide)) A0.n10 z.zc fz (pv 2)) pa_nil)))))
      (Clauses.more ⟨rfl, by decide, .inl N.g11⟩ rfl rfl (fun a oe cls d pn z fz => pss_one (ps_ret (pe_tup (pa_cons pe_int (pa_cons (pe_xf (T.fld 11 (by decide) (by decide)) A0.n11 z.zc fz (pv 2)) pa_nil)))))
      (Clauses.more ⟨rfl, by decide, .inl N.g14⟩ rfl rfl (fun a oe cls d pn z fz => pss_one (ps_ret (pe_tup (pa_cons pe_int (pa_cons (pe_xf (T.fld 14 (by decide) (by decide)) A0.n14 z.zc fz (pv 2)) pa_nil)))))
      (Clauses.more ⟨rfl, by decide, .inl N.g17⟩ rfl rfl (fun a oe cls d pn z fz => pss_one (ps_ret (pe_tup (pa_cons pe_int (pa_cons (pe_xf (T.fld 17 (by decide) (by decide)) A0.n17 z.zc fz (pv 2)) pa_nil)))))
      Clauses.none)))))))
      (pss_one (ps_ret (pe_tup (pa_cons pe_int (pa_cons pe_non pa_nil))))), ?_⟩
    refine ⟨_, rfl, _, rfl, i, v, rfl, hi, fun d H' sm ca => ?_⟩
    refine ⟨decide (i = 8), T.ca i 8 hi (by decide), (fun no => ?_), fun yes a na => ?_⟩
    rotate_left
    · have e : i = 8 := of_decide_eq_true yes
      subst e
      obtain ⟨dd, rfl, g⟩ := ca.2 (by decide)
      exact ⟨_, rfl, rfl, rfl, dd, _, v, rfl, g, look1, line_small (by show 2 ≤ 16777216; decide), fun p hp => q p _ (sm.trans (same_new hp)) (sm.free hp) upd_same⟩
    have n8 := of_decide_eq_false no
    refine ⟨decide (i = 9), T.ca i 9 hi (by decide), (fun no => ?_), fun yes a na => ?_⟩
    rotate_left
    · have e : i = 9 := of_decide_eq_true yes
      subst e
      obtain ⟨dd, rfl, g⟩ := ca.2 (by decide)
      exact ⟨_, rfl, rfl, rfl, dd, _, v, rfl, g, look1, line_small (by show 2 ≤ 16777216; decide), fun p hp => q p _ (sm.trans (same_new hp)) (sm.free hp) upd_same⟩
    have n9 := of_decide_eq_false no
    refine ⟨decide (i = 10), T.ca i 10 hi (by decide), (fun no => ?_), fun yes a na => ?_⟩
    rotate_left
    · have e : i = 10 := of_decide_eq_true yes
      subst e
      obtain ⟨dd, rfl, g⟩ := ca.2 (by decide)
      exact ⟨_, rfl, rfl, rfl, dd, _, v, rfl, g, look1, line_small (by show 2 ≤ 16777216; decide), fun p hp => q p _ (sm.trans (same_new hp)) (sm.free hp) upd_same⟩
    have n10 := of_decide_eq_false no
    refine ⟨decide (i = 11), T.ca i 11 hi (by decide), (fun no => ?_), fun yes a na => ?_⟩
    rotate_left
    · have e : i = 11 := of_decide_eq_true yes
      subst e
      obtain ⟨dd, rfl, g⟩ := ca.2 (by decide)
      exact ⟨_, rfl, rfl, rfl, dd, _, v, rfl, g, look1, line_small (by show 2 ≤ 16777216; decide), fun p hp => q p _ (sm.trans (same_new hp)) (sm.free hp) upd_same⟩
    have n11 := of_decide_eq_false no
    refine ⟨decide (i = 14), T.ca i 14 hi (by decide), (fun no => ?_), fun yes a na => ?_⟩
    rotate_left
    · have e : i = 14 := of_decide_eq_true yes
      subst e
      obtain ⟨dd, rfl, g⟩ := ca.2 (by decide)
      exact ⟨_, rfl, rfl, rfl, dd, _, v, rfl, g, look1, line_small (by show 2 ≤ 16777216; decide), fun p hp => q p _ (sm.trans (same_new hp)) (sm.free hp) upd_same⟩
    have n14 := of_decide_eq_false no
    refine ⟨decide (i = 17), T.ca i 17 hi (by decide), (fun no => ?_), fun yes a na => ?_⟩
    rotate_left
    · have e : i = 17 := of_decide_eq_true yes
      subst e
      obtain ⟨dd, rfl, g⟩ := ca.2 (by decide)
      exact ⟨_, rfl, rfl, rfl, dd, _, v, rfl, g, look1, line_small (by show 2 ≤ 16777216; decide), fun p hp => q p _ (sm.trans (same_new hp)) (sm.free hp) upd_same⟩
    have n17 := of_decide_eq_false no
    simp at mem
    omega
end
end K07

namespace K07
open PySem PySem.Spec PyProof.Rows L2 Tl
open PySem.PyData in
/-- the drawn value -/
def Val (H : Hp) (v : V) (dv : PyData) : Prop := (∃ n, v = .int n ∧ dv = .int n) ∨ (∃ l : List Nat, (∀ n ∈ l, n ∈ alpha) ∧ v = .str (tx l) ∧ dv = .str (tx l)) ∨ (v = .non ∧ dv = .none) ∨ (v = .bl true ∧ dv = .bool true) ∨ ∃ a n, v = .ref a ∧ H a = some (.lst [.int n]) ∧ dv = .list [.int n]
theorem Val.same {H H' : Hp} {v : V} {dv : PyData} (h : Val H v dv) (s : Same H H') : Val H' v dv := by
  rcases h with h | h | h | h | ⟨a, n, e, g, f⟩
  · exact .inl h
  · exact .inr (.inl h)
  · exact .inr (.inr (.inl h))
  · exact .inr (.inr (.inr (.inl h)))
  · exact .inr (.inr (.inr (.inr ⟨a, n, e, s _ _ g, f⟩)))
theorem Val.dp {K : PySem.W.Frag} {H : Hp} {v : V} {dv : PyData} (h : Val H v dv) : Dp K H v dv := by
  rcases h with ⟨n, rfl, rfl⟩ | ⟨l, _, rfl, rfl⟩ | ⟨rfl, rfl⟩ | ⟨rfl, rfl⟩ | ⟨a, n, rfl, g, rfl⟩
  · exact .int n
  · exact .str _
  · exact .non
  · exact .bl true
  · exact .lst (SqL.of g) (.cons (.int n) .nil)
theorem alpha_small : ∀ n ∈ alpha, n < 0x110000 := by decide +kernel
theorem Val.fine {H : Hp} {v : V} {dv : PyData} (h : Val H v dv) (i : Int) : SeqAt.shaped (.tuple [.int i, dv]) = true := by
  rcases h with ⟨n, rfl, rfl⟩ | ⟨l, hl, rfl, rfl⟩ | ⟨rfl, rfl⟩ | ⟨rfl, rfl⟩ | ⟨a, n, rfl, g, rfl⟩
  · rfl
  · have e : PyData.strOk (tx l) = true := by
      unfold PyData.strOk tx
      simp only [List.all_toArray, List.all_eq_true, decide_eq_true_eq]
      exact fun n hn => alpha_small n (hl n hn)
    unfold SeqAt.shaped
    simp [PyData.canLay0, PyData.canLayAll0, e, PyData.depth, PyData.depthAll]
  · rfl
  · rfl
  · rfl
theorem Val.eq {H : Hp} {v : V} {dv : PyData} (h : Val H v dv) (i : Int) : PyData.eqv (.tuple [.int i, dv]) (.tuple [.int i, dv]) = true :=
  PySem.SeqAt.eqv_refl_plain _ (PySem.PyData.plain_of_canLay0 _ (SeqAt.canLay_of_shaped (h.fine i)))
theorem yes_keep {σ : L2.St} {H : Hp} {Ya Na : Hp → Prop} (h : Ya H) : tYes σ H (fun b H3 => if b = true then Ya H3 else Na H3) := by
  show if true = true then Ya H else Na H
  rw [if_pos rfl]
  exact h
def flagD (i : Nat) : PyData := .list ((List.range 18).map fun j => .bool (decide (i = j)))
theorem flagD_dp {K : PySem.W.Frag} {H : Hp} {l : Addr} {i : Nat} (h : H l = some (.lst (flags i))) : Dp K H (.ref l) (flagD i) := by
  refine .lst (SqL.of h) ?_
  unfold flags
  generalize List.range 18 = r
  induction r with
  | nil => exact .nil
  | cons j r ih => exact .cons (.bl _) ih
theorem flagD_fine (i : Nat) : SeqAt.shaped (flagD i) = true := rfl
theorem flagD_eq (i : Nat) : PyData.eqv (flagD i) (flagD i) = true := PySem.SeqAt.eqv_refl_plain _ (PySem.PyData.plain_of_canLay0 _ (SeqAt.canLay_of_shaped (flagD_fine i)))
section
variable {P : Program} {w : World} {K : PySem.W.Frag} {mg : Str → Option Value} {base : Heap}
/-- a def as it can be called -/
def Can (P : Program) (w : World) (K : PySem.W.Frag) (mg : Str → Option Value) (base : Heap) (CX : CXT) (x : Str) (ps : List Str) (k : Nat) (sp : Sp) : Prop :=
  ∃ (f : Addr) (fd : FuncData), FnOk P w K mg base CX k f fd ps sp ∧ mg x = some (.ref f) ∧ PySem.W.keepIn K (.ref f) = true ∧ Binds K fd ps []
structure Parts (P : Program) (w : World) (K : PySem.W.Frag) (mg : Str → Option Value) (base : Heap) : Prop where
  bag : Can P w K mg base CX0 "_law_bag" ["_law_script"] 1 (spBag K)
  draw : Can P w K mg base CX0 "_law_draw" ["_law_bag_here", "_law_limit"] 1 spDraw
  letters : Can P w K mg base CX0 "_law_letters" ["_law_bag_here", "_law_many"] 2 spLetters
  by_base : Can P w K mg base CX0 "_law_by_base" ["_law_which", "_law_value"] 4 spBase
  number : Can P w K mg base CX0 "_law_number_of" ["_law_which", "_law_value"] 4 sp_number
  name : Can P w K mg base CX0 "_law_name_of" ["_law_which", "_law_value"] 4 sp_name
def spLaw (K : PySem.W.Frag) : Sp := fun vs H Q _ => ∃ (a : Addr) (ns : List Int), vs = [.ref a] ∧ SqL K H a (ns.map V.int) ∧ ns.length ≤ 63 ∧ ∀ H', Q (.bl true) H'
set_option maxHeartbeats 20000000 in
theorem ok_law {f : Addr} {fd : FuncData} (F : FnP K "law" "law" s_law f fd) (Z : Parts P w K mg base) (mr : mg "range" = none) : FnOk P w K mg base CX0 5 f fd ["_law_script"] (spLaw K) := by
  obtain ⟨fB, fdB, GB, gB, kB, bB⟩ := Z.bag
  obtain ⟨fD, fdD, GD, gD, kD, bD⟩ := Z.draw
  obtain ⟨fL, fdL, GL, gL, kL, bL⟩ := Z.letters
  obtain ⟨fY, fdY, GY, gY, kY, bY⟩ := Z.by_base
  obtain ⟨fN, fdN, GN, gN, kN, bN⟩ := Z.number
  obtain ⟨fM, fdM, GM, gM, kM, bM⟩ := Z.name
  have nd := sc_law.nd
  refine F.ok sc_law (fun vs H Q E h => ?_) (fun cdv A outer s H vs Q E hr h => ?_)
  · obtain ⟨a, ns, rfl, _⟩ := h
    rfl
  · obtain ⟨a, ns, rfl, hS, hlen, q⟩ := h
    have r1 := hr.mono (show 1 ≤ 4 by decide)
    have r2 := hr.mono (show 2 ≤ 4 by decide)
    refine ⟨_, PSs.nox (pss_cons (ps_set (i := 1) nd rfl (.inl rfl) (pe_call GB r1 (by rfl) gB kB bB .nil pass0 (pa_cons (pv 0) pa_nil)))
      (pss_cons (ps_set (i := 2) nd rfl (.inl rfl) (pe_call GD r1 (by rfl) gD kD bD .nil pass0 (pa_cons (pv 1) (pa_cons (pe_op op_pow pe_int pe_int) pa_nil))))
      (pss_cons (ps_set (i := 3) nd rfl (.inl rfl) (pe_ix (r := rIxL K) ix_list (pe_lst (pa_cons (pv 2) (pa_cons (pe_join pe_str (pe_call GL r2 (by rfl) gL kL bL .nil pass0 (pa_cons (pv 1) (pa_cons (pe_call GD r1 (by rfl) gD kD bD .nil pass0 (pa_cons (pv 1) (pa_cons pe_int pa_nil))) pa_nil))))
        (pa_cons pe_non (pa_cons pe_bl (pa_cons (pe_lst (pa_cons (pv 2) pa_nil)) pa_nil)))))) (pe_call GD r1 (by rfl) gD kD bD .nil pass0 (pa_cons (pv 1) (pa_cons pe_int pa_nil))) (fun _ _ => rfl)))
      (pss_cons (ps_for PassesOwn.never rfl (pi_range1 rfl mr (pa_cons pe_int pa_nil)) (pg_name (i := 4) nd rfl (by first | exact .inl rfl | exact .inr rfl))
        (pss_one (ps_if (pt_cmpR (r := rNeD K) (op_neD hr.units) (pe_call GY hr (by rfl) gY kY bY .nil pass0 (pa_cons (pv 4) (pa_cons (pv 3) pa_nil)))
          (pe_lc (own := [("_law_k", 5)]) (g := gName 5) (tt := tYes) rfl nd (pi_range1 rfl mr (pa_cons pe_int pa_nil)) (blkOk_by (N := ["_law_script", "_law_bag_here", "_law_number", "_law_value", "_law_which", "_law_k"]) (sc := defScope s_law) (by decide +kernel)) (fun _ _ _ _ _ => pg_name (i := 5) nd rfl (Or.inl rfl)) (fun _ _ _ _ _ => pts_nil)
            (fun _ _ _ _ _ => pe_cmpR op_eq (pv 5) (pv 4) (nomark _))) (nomark _)) (pss_one (ps_ret pe_bl)) pss_nil)))
      (pss_cons (ps_for PassesOwn.never rfl (pi_list (pe_lst (pa_cons pe_int (pa_cons pe_int (pa_cons pe_int (pa_cons pe_int (pa_cons pe_int (pa_cons pe_int pa_nil)))))))) (pg_name (i := 4) nd rfl (by first | exact .inl rfl | exact .inr rfl))
        (pss_one (ps_if (pt_cmpR (r := rNeD K) (op_neD hr.units) (pe_call GN hr (by rfl) gN kN bN .nil pass0 (pa_cons (pv 4) (pa_cons (pv 3) pa_nil))) (pe_tup (pa_cons (pv 4) (pa_cons (pv 3) pa_nil))) (nomark _)) (pss_one (ps_ret pe_bl)) pss_nil)))
      (pss_cons (ps_for PassesOwn.never rfl (pi_list (pe_lst (pa_cons pe_int (pa_cons pe_int (pa_cons pe_int (pa_cons pe_int (pa_cons pe_int (pa_cons pe_int pa_nil)))))))) (pg_name (i := 4) nd rfl (by first | exact .inl rfl | exact .inr rfl))
        (pss_one (ps_if (pt_cmpR (r := rNeD K) (op_neD hr.units) (pe_call GM hr (by rfl) gM kM bM .nil pass0 (pa_cons (pv 4) (pa_cons (pv 3) pa_nil))) (pe_tup (pa_cons (pv 4) (pa_cons (pv 3) pa_nil))) (nomark _)) (pss_one (ps_ret pe_bl)) pss_nil)))
      (pss_one (ps_ret pe_bl)))))))), ?_⟩
    refine ⟨_, rfl, a, ns, rfl, hS, hlen, fun b c H1 hb hc B1 s1 => ?_⟩
    refine ⟨_, rfl, _, _, rfl, rfl, ⟨by decide, by decide, by decide⟩, b, c, 10 ^ 40, rfl, B1, by decide, by decide, fun n H2 n0 n1 B2 K2 => ?_⟩
    refine ⟨_, rfl, ⟨_, rfl⟩, _, rfl, _, rfl, b, c, 9, rfl, B2, by decide, by decide, fun m H3 m0 m9 B3 K3 => ?_⟩
    refine ⟨b, c, m, rfl, B3, m0, by omega, fun p ls H4 el ndl hal hp e4 B4 K4 => ?_⟩
    refine ⟨tx [], p, ls.map sg, rfl, rfl, .inl (SqL.of (by rw [← strs_sg]; exact e4)), ?_, ?_⟩
    · rw [sum_sg, len_tx, List.length_map]
      show ls.length + ls.length * 0 ≤ 16777216
      omega
    rw [join_sg]
    refine ⟨_, rfl, line_small (by show 1 ≤ 16777216; decide), fun g hg => ?_⟩
    refine ⟨line_small (by show 5 ≤ 16777216; decide), fun o ho => ?_⟩
    have B6 := (B4.new (o := .lst [.int n]) hg).new (o := .lst [.int n, .str (tx ls), .non, .bl true, .ref g]) ho
    refine ⟨_, rfl, b, c, 5, rfl, B6, by decide, by decide, fun d H7 d0 d5 B7 K7 => ?_⟩
    obtain ⟨n1, n2, n3, hbt⟩ := B4.top
    obtain ⟨ns1, hct⟩ := B4.cells
    have gb : g ≠ b := Ne.symm (ne_of_none hbt hg)
    have gc : g ≠ c := Ne.symm (ne_of_none hct hg)
    have ob : o ≠ b := Ne.symm (ne_of_none ((same_new (o := .lst [.int n]) hg) _ _ hbt) ho)
    have oc : o ≠ c := Ne.symm (ne_of_none ((same_new (o := .lst [.int n]) hg) _ _ hct) ho)
    have eg : H7 g = some (.lst [.int n]) := K7 _ _ ((same_new ho) _ _ upd_same) gb gc
    have eo : H7 o = some (.lst [.int n, .str (tx ls), .non, .bl true, .ref g]) := K7 _ _ upd_same ob oc
    obtain ⟨v, dv, at_, hv⟩ : ∃ v dv, atI [.int n, .str (tx ls), .non, .bl true, .ref g] d = some v ∧ Val H7 v dv := by
      have cs : d = 0 ∨ d = 1 ∨ d = 2 ∨ d = 3 ∨ d = 4 := by omega
      rcases cs with rfl | rfl | rfl | rfl | rfl
      · exact ⟨_, _, rfl, .inl ⟨n, rfl, rfl⟩⟩
      · exact ⟨_, _, rfl, .inr (.inl ⟨ls, hal, rfl, rfl⟩)⟩
      · exact ⟨_, _, rfl, .inr (.inr (.inl ⟨rfl, rfl⟩))⟩
      · exact ⟨_, _, rfl, .inr (.inr (.inr (.inl ⟨rfl, rfl⟩)))⟩
      · exact ⟨_, _, rfl, .inr (.inr (.inr (.inr ⟨g, n, rfl, eg, rfl⟩)))⟩
    refine ⟨o, _, d, v, rfl, rfl, SqL.of eo, at_, ?_⟩
    refine ⟨18, rfl, by decide, by decide, for_range (n := 18) (fun _ σ H' => ∃ x4 x5, σ = [some (.ref a), some (.ref b), some (.int n), some v, x4, x5] ∧ Same H7 H') ⟨none, none, rfl, Same.refl _⟩ ?_ ?_⟩
    · rintro i σ H8 hi ⟨x4, x5, rfl, s8⟩
      have ei : (0 : Int) + (i : Int) = (i : Int) := Int.zero_add _
      rw [ei]
      refine ⟨_, rfl, _, rfl, i, v, rfl, hi, fun l H9 s9 f9 e9 => ?_⟩
      refine ⟨18, rfl, by decide, by decide, fun D hD => ?_⟩
      refine lc_range (lo := 0) (n := 18) (fun k H' => H' D = some (.lst ((List.range k).map fun j => V.bl (decide (i = j)))) ∧ Same H9 H') ⟨upd_same, same_new hD⟩ ?_ ?_
      · rintro k H' hk ⟨e, sm⟩
        refine ⟨rfl, ?_⟩
        refine yes_keep ?_
        refine ⟨_, rfl, _, rfl, rfl, _, e, ?_, ?_, ?_⟩
        · rw [List.length_map, List.length_range]
          exact small1000 (by omega)
        · rw [upd_same, List.range_succ, List.map_append]
          have ed : decide (V.int (0 + (k : Int)) = V.int (i : Int)) = decide (i = k) := by
            rw [decide_eq_decide]
            constructor
            · intro z
              have := V.int.inj z
              omega
            · intro z
              rw [z, Int.zero_add]
          rw [ed]
          rfl
        · intro x u z
          rw [upd_ne (ne_of_none z hD)]
          exact sm _ _ z
      · rintro H' ⟨e, sm⟩
        refine ⟨flagD i, flagD i, flagD_dp (sm _ _ e9), flagD_dp e, flagD_fine i, flagD_fine i, false, (by rw [flagD_eq]; rfl), iteF ?_⟩
        exact ⟨_, _, rfl, (s8.trans s9).trans sm⟩
    rintro σ H8 ⟨x4, x5, rfl, s8⟩
    · -- numbers
      refine ⟨line_small (by show 6 ≤ 16777216; decide), fun t ht => ⟨t, rfl, ⟨_, SqL.of upd_same⟩, for_list (xs := [.int 6, .int 7, .int 12, .int 13, .int 15, .int 16]) (fun _ σ H' => ∃ x4 x5, σ = [some (.ref a), some (.ref b), some (.int n), some v, x4, x5] ∧ Same H7 H' ∧ H' t = some (.lst [.int 6, .int 7, .int 12, .int 13, .int 15, .int 16])) ⟨x4, x5, rfl, s8.trans (same_new ht), upd_same⟩ (fun i σ H' _ h => ?_) ?_ ?_⟩⟩
      · obtain ⟨_, _, _, _, e⟩ := h
        exact SqL.of e
      · rintro k x σ H9 hx ⟨y4, y5, rfl, s9, e9⟩
        obtain ⟨j, hj, rfl⟩ : ∃ j : Nat, j ∈ [6, 7, 12, 13, 15, 16] ∧ x = .int j := by
          have z := List.mem_of_getElem? hx
          simp only [List.mem_cons, List.not_mem_nil, or_false] at z
          rcases z with rfl | rfl | rfl | rfl | rfl | rfl
          · exact ⟨6, by decide, rfl⟩
          · exact ⟨7, by decide, rfl⟩
          · exact ⟨12, by decide, rfl⟩
          · exact ⟨13, by decide, rfl⟩
          · exact ⟨15, by decide, rfl⟩
          · exact ⟨16, by decide, rfl⟩
        refine ⟨_, rfl, _, rfl, j, v, rfl, hj, fun l HA sA fA eA => ?_⟩
        refine ⟨_, rfl, _, rfl, line_small (by show 2 ≤ 16777216; decide), fun u hu => ?_⟩
        have sB := same_new (o := .tup [.int j, v]) hu
        have vv := (hv.same ((s9.trans sA).trans sB))
        refine ⟨.tuple [.int j, dv], .tuple [.int j, dv], .tup (SqT.of (sB _ _ eA)) (.cons (.int j) (.cons vv.dp .nil)), .tup (SqT.of upd_same) (.cons (.int j) (.cons vv.dp .nil)), vv.fine j, vv.fine j, false, (by rw [vv.eq]; rfl), iteF ?_⟩
        exact ⟨_, _, rfl, (s9.trans sA).trans sB, sB _ _ (sA _ _ e9)⟩
      rintro σ H8 ⟨x4, x5, rfl, s8, _⟩
      -- names
      refine ⟨line_small (by show 6 ≤ 16777216; decide), fun t ht => ⟨t, rfl, ⟨_, SqL.of upd_same⟩, for_list (xs := [.int 8, .int 9, .int 10, .int 11, .int 14, .int 17]) (fun _ σ H' => ∃ x4 x5, σ = [some (.ref a), some (.ref b), some (.int n), some v, x4, x5] ∧ Same H7 H' ∧ H' t = some (.lst [.int 8, .int 9, .int 10, .int 11, .int 14, .int 17])) ⟨x4, x5, rfl, s8.trans (same_new ht), upd_same⟩ (fun i σ H' _ h => ?_) ?_ ?_⟩⟩
      · obtain ⟨_, _, _, _, e⟩ := h
        exact SqL.of e
      · rintro k x σ H9 hx ⟨y4, y5, rfl, s9, e9⟩
        obtain ⟨j, hj, rfl⟩ : ∃ j : Nat, j ∈ [8, 9, 10, 11, 14, 17] ∧ x = .int j := by
          have z := List.mem_of_getElem? hx
          simp only [List.mem_cons, List.not_mem_nil, or_false] at z
          rcases z with rfl | rfl | rfl | rfl | rfl | rfl
          · exact ⟨8, by decide, rfl⟩
          · exact ⟨9, by decide, rfl⟩
          · exact ⟨10, by decide, rfl⟩
          · exact ⟨11, by decide, rfl⟩
          · exact ⟨14, by decide, rfl⟩
          · exact ⟨17, by decide, rfl⟩
        refine ⟨_, rfl, _, rfl, j, v, rfl, hj, fun l HA sA fA eA => ?_⟩
        refine ⟨_, rfl, _, rfl, line_small (by show 2 ≤ 16777216; decide), fun u hu => ?_⟩
        have sB := same_new (o := .tup [.int j, v]) hu
        have vv := (hv.same ((s9.trans sA).trans sB))
        refine ⟨.tuple [.int j, dv], .tuple [.int j, dv], .tup (SqT.of (sB _ _ eA)) (.cons (.int j) (.cons vv.dp .nil)), .tup (SqT.of upd_same) (.cons (.int j) (.cons vv.dp .nil)), vv.fine j, vv.fine j, false, (by rw [vv.eq]; rfl), iteF ?_⟩
        exact ⟨_, _, rfl, (s9.trans sA).trans sB, sB _ _ (sA _ _ e9)⟩
      rintro σ H8 ⟨x4, x5, rfl, s8, _⟩
      exact q _
end
end K07

namespace K07
open PySem PySem.Spec PyProof.Rows L2 Tl
theorem facts {P : Program} {w : World} {K : PySem.W.Frag} {h : Heap} {mg : Str → Option Value} {f : Addr} (X : K.In h) (G : h.Ns mainGlobals mg) (hfa : mg ("law" : Str) = some (.ref f)) (c0 : He.SaysD fa fn K) (hex : ex K = true) :
    ∃ fd : FuncData, (∀ (s : Shared) (v : Value), BindsTo s fd ⟨[v], []⟩ [("_law_script", v)]) ∧ ∀ base : Heap, K.In base → base.Ns mainGlobals mg → FnOk P w K mg base CX0 5 f fd ["_law_script"] (spLaw K) := by
  obtain ⟨e_BadItem_init_, F_BadItem_init_⟩ := c0.def_ 0 (d := d_BadItem_init_) rfl
  obtain ⟨e_BadForm_init_, F_BadForm_init_⟩ := c0.def_ 1 (d := d_BadForm_init_) rfl
  obtain ⟨e_BadName_init_, F_BadName_init_⟩ := c0.def_ 2 (d := d_BadName_init_) rfl
  obtain ⟨e_Unknown_init_, F_Unknown_init_⟩ := c0.def_ 3 (d := d_Unknown_init_) rfl
  obtain ⟨e_Missing_init_, F_Missing_init_⟩ := c0.def_ 4 (d := d_Missing_init_) rfl
  obtain ⟨e_BadValue_init_, F_BadValue_init_⟩ := c0.def_ 5 (d := d_BadValue_init_) rfl
  obtain ⟨e_NotSingle_init_, F_NotSingle_init_⟩ := c0.def_ 6 (d := d_NotSingle_init_) rfl
  obtain ⟨e_NotWithin_init_, F_NotWithin_init_⟩ := c0.def_ 7 (d := d_NotWithin_init_) rfl
  obtain ⟨e_NoForm_init_, F_NoForm_init_⟩ := c0.def_ 8 (d := d_NoForm_init_) rfl
  obtain ⟨e_BadNumber_init_, F_BadNumber_init_⟩ := c0.def_ 9 (d := d_BadNumber_init_) rfl
  obtain ⟨e_TooWide_init_, F_TooWide_init_⟩ := c0.def_ 10 (d := d_TooWide_init_) rfl
  obtain ⟨e_BadShort_init_, F_BadShort_init_⟩ := c0.def_ 11 (d := d_BadShort_init_) rfl
  obtain ⟨e_l_bag, F_l_bag⟩ := c0.def_ 12 (d := d_l_bag) rfl
  obtain ⟨e_l_draw, F_l_draw⟩ := c0.def_ 13 (d := d_l_draw) rfl
  obtain ⟨e_l_alphabet, F_l_alphabet⟩ := c0.def_ 14 (d := d_l_alphabet) rfl
  obtain ⟨e_l_letters, F_l_letters⟩ := c0.def_ 15 (d := d_l_letters) rfl
  obtain ⟨e_l_raise_plain, F_l_raise_plain⟩ := c0.def_ 16 (d := d_l_raise_plain) rfl
  obtain ⟨e_l_raise, F_l_raise⟩ := c0.def_ 17 (d := d_l_raise) rfl
  obtain ⟨e_l_classes, F_l_classes⟩ := c0.def_ 18 (d := d_l_classes) rfl
  obtain ⟨e_l_by_base, F_l_by_base⟩ := c0.def_ 19 (d := d_l_by_base) rfl
  obtain ⟨e_l_number_of, F_l_number_of⟩ := c0.def_ 20 (d := d_l_number_of) rfl
  obtain ⟨e_l_name_of, F_l_name_of⟩ := c0.def_ 21 (d := d_l_name_of) rfl
  obtain ⟨e_law, F_law⟩ := c0.def_ 22 (d := d_law) rfl
  have e := hfa.symm.trans (He.glo_ok X G (c0.fact 10 (f := .glo "law") rfl))
  cases e
  have b_BadItem_init_ := FunD.bindsN (ps := ["self", "at"]) F_BadItem_init_ fun _ _ _ _ _ _ us hl => match us, hl with | [_, _], _ => rfl
  have b_BadForm_init_ := FunD.bindsN (ps := ["self", "at"]) F_BadForm_init_ fun _ _ _ _ _ _ us hl => match us, hl with | [_, _], _ => rfl
  have b_BadName_init_ := FunD.bindsN (ps := ["self", "name"]) F_BadName_init_ fun _ _ _ _ _ _ us hl => match us, hl with | [_, _], _ => rfl
  have b_Unknown_init_ := FunD.bindsN (ps := ["self", "name"]) F_Unknown_init_ fun _ _ _ _ _ _ us hl => match us, hl with | [_, _], _ => rfl
  have b_Missing_init_ := FunD.bindsN (ps := ["self", "name"]) F_Missing_init_ fun _ _ _ _ _ _ us hl => match us, hl with | [_, _], _ => rfl
  have b_BadValue_init_ := FunD.bindsN (ps := ["self", "name"]) F_BadValue_init_ fun _ _ _ _ _ _ us hl => match us, hl with | [_, _], _ => rfl
  have b_NotSingle_init_ := FunD.bindsN (ps := ["self", "text"]) F_NotSingle_init_ fun _ _ _ _ _ _ us hl => match us, hl with | [_, _], _ => rfl
  have b_NotWithin_init_ := FunD.bindsN (ps := ["self", "text"]) F_NotWithin_init_ fun _ _ _ _ _ _ us hl => match us, hl with | [_, _], _ => rfl
  have b_NoForm_init_ := FunD.bindsN (ps := ["self", "name"]) F_NoForm_init_ fun _ _ _ _ _ _ us hl => match us, hl with | [_, _], _ => rfl
  have b_BadNumber_init_ := FunD.bindsN (ps := ["self", "number"]) F_BadNumber_init_ fun _ _ _ _ _ _ us hl => match us, hl with | [_, _], _ => rfl
  have b_TooWide_init_ := FunD.bindsN (ps := ["self", "line"]) F_TooWide_init_ fun _ _ _ _ _ _ us hl => match us, hl with | [_, _], _ => rfl
  have b_BadShort_init_ := FunD.bindsN (ps := ["self", "name"]) F_BadShort_init_ fun _ _ _ _ _ _ us hl => match us, hl with | [_, _], _ => rfl
  have b_l_bag := FunD.bindsN (ps := ["_law_script"]) F_l_bag fun _ _ _ _ _ _ us hl => match us, hl with | [_], _ => rfl
  have b_l_draw := FunD.bindsN (ps := ["_law_bag_here", "_law_limit"]) F_l_draw fun _ _ _ _ _ _ us hl => match us, hl with | [_, _], _ => rfl
  have b_l_alphabet := FunD.bindsN (ps := []) F_l_alphabet fun _ _ _ _ _ _ us hl => match us, hl with | [], _ => rfl
  have b_l_letters := FunD.bindsN (ps := ["_law_bag_here", "_law_many"]) F_l_letters fun _ _ _ _ _ _ us hl => match us, hl with | [_, _], _ => rfl
  have b_l_raise_plain := FunD.bindsN (ps := ["_law_which"]) F_l_raise_plain fun _ _ _ _ _ _ us hl => match us, hl with | [_], _ => rfl
  have b_l_raise := FunD.bindsN (ps := ["_law_which", "_law_value"]) F_l_raise fun _ _ _ _ _ _ us hl => match us, hl with | [_, _], _ => rfl
  have b_l_classes := FunD.bindsN (ps := ["_law_e"]) F_l_classes fun _ _ _ _ _ _ us hl => match us, hl with | [_], _ => rfl
  have b_l_by_base := FunD.bindsN (ps := ["_law_which", "_law_value"]) F_l_by_base fun _ _ _ _ _ _ us hl => match us, hl with | [_, _], _ => rfl
  have b_l_number_of := FunD.bindsN (ps := ["_law_which", "_law_value"]) F_l_number_of fun _ _ _ _ _ _ us hl => match us, hl with | [_, _], _ => rfl
  have b_l_name_of := FunD.bindsN (ps := ["_law_which", "_law_value"]) F_l_name_of fun _ _ _ _ _ _ us hl => match us, hl with | [_, _], _ => rfl
  have T : Town K cn 6 := townB_ok hex
  have N : Names18 K mg := ⟨He.glo_ok X G (c0.fact 48 (f := .glo "BadSigns") rfl), He.glo_ok X G (c0.fact 50 (f := .glo "BadText") rfl), He.glo_ok X G (c0.fact 52 (f := .glo "BadKind") rfl), He.glo_ok X G (c0.fact 54 (f := .glo "NoReading") rfl), He.glo_ok X G (c0.fact 56 (f := .glo "TooMany") rfl), He.glo_ok X G (c0.fact 58 (f := .glo "TooLarge") rfl), He.glo_ok X G (c0.fact 11 (f := .glo "BadItem") rfl), He.glo_ok X G (c0.fact 14 (f := .glo "BadForm") rfl), He.glo_ok X G (c0.fact 17 (f := .glo "BadName") rfl), He.glo_ok X G (c0.fact 20 (f := .glo "Unknown") rfl), He.glo_ok X G (c0.fact 23 (f := .glo "Missing") rfl), He.glo_ok X G (c0.fact 26 (f := .glo "BadValue") rfl), He.glo_ok X G (c0.fact 29 (f := .glo "NotSingle") rfl), He.glo_ok X G (c0.fact 32 (f := .glo "NotWithin") rfl), He.glo_ok X G (c0.fact 35 (f := .glo "NoForm") rfl), He.glo_ok X G (c0.fact 38 (f := .glo "BadNumber") rfl), He.glo_ok X G (c0.fact 41 (f := .glo "TooWide") rfl), He.glo_ok X G (c0.fact 44 (f := .glo "BadShort") rfl), He.glo_ok X G (c0.fact 47 (f := .glo "TownError") rfl)⟩
  have A0 : NoAt K := ⟨He.noat_ok (c0.fact 13 (f := .noat "BadItem" "at") rfl), He.noat_ok (c0.fact 16 (f := .noat "BadForm" "at") rfl), He.noat_ok (c0.fact 19 (f := .noat "BadName" "name") rfl), He.noat_ok (c0.fact 22 (f := .noat "Unknown" "name") rfl), He.noat_ok (c0.fact 25 (f := .noat "Missing" "name") rfl), He.noat_ok (c0.fact 28 (f := .noat "BadValue" "name") rfl), He.noat_ok (c0.fact 31 (f := .noat "NotSingle" "text") rfl), He.noat_ok (c0.fact 34 (f := .noat "NotWithin" "text") rfl), He.noat_ok (c0.fact 37 (f := .noat "NoForm" "name") rfl), He.noat_ok (c0.fact 40 (f := .noat "BadNumber" "number") rfl), He.noat_ok (c0.fact 43 (f := .noat "TooWide" "line") rfl), He.noat_ok (c0.fact 46 (f := .noat "BadShort" "name") rfl)⟩
  have p0 : Plain K mg "BadSigns" (cC K 0) := by
    obtain ⟨z1, z2, z3, z4⟩ := He.exc_ok (c0.fact 49 (f := .exc "BadSigns") rfl)
    exact ⟨N.g0, z1, z2, z3, z4⟩
  have p1 : Plain K mg "BadText" (cC K 1) := by
    obtain ⟨z1, z2, z3, z4⟩ := He.exc_ok (c0.fact 51 (f := .exc "BadText") rfl)
    exact ⟨N.g1, z1, z2, z3, z4⟩
  have p2 : Plain K mg "BadKind" (cC K 2) := by
    obtain ⟨z1, z2, z3, z4⟩ := He.exc_ok (c0.fact 53 (f := .exc "BadKind") rfl)
    exact ⟨N.g2, z1, z2, z3, z4⟩
  have p3 : Plain K mg "NoReading" (cC K 3) := by
    obtain ⟨z1, z2, z3, z4⟩ := He.exc_ok (c0.fact 55 (f := .exc "NoReading") rfl)
    exact ⟨N.g3, z1, z2, z3, z4⟩
  have p4 : Plain K mg "TooMany" (cC K 4) := by
    obtain ⟨z1, z2, z3, z4⟩ := He.exc_ok (c0.fact 57 (f := .exc "TooMany") rfl)
    exact ⟨N.g4, z1, z2, z3, z4⟩
  have p5 : Plain K mg "TooLarge" (cC K 5) := by
    obtain ⟨z1, z2, z3, z4⟩ := He.exc_ok (c0.fact 59 (f := .exc "TooLarge") rfl)
    exact ⟨N.g5, z1, z2, z3, z4⟩
  refine ⟨e_law, fun s v => FunD.bindsA (ps := ["_law_script"]) F_law (fun _ _ _ _ _ _ us hl => match us, hl with | [_], _ => rfl) s [v] rfl, fun base _ _ => ?_⟩
  have i6 : Ini P w K mg base "BadItem" "at" (cC K 6) := by
    have M := He.meth_ok (c0.fact 12 (f := .meth "BadItem" "__init__") rfl)
    exact ⟨N.g6, T.own 6 (by decide) (by decide), _, e_BadItem_init_, ok_BadItem F_BadItem_init_ (T.own 6 (by decide) (by decide)) A0.n6, M.at_, beq_iff_eq.mp M.fn, b_BadItem_init_⟩
  have i7 : Ini P w K mg base "BadForm" "at" (cC K 7) := by
    have M := He.meth_ok (c0.fact 15 (f := .meth "BadForm" "__init__") rfl)
    exact ⟨N.g7, T.own 7 (by decide) (by decide), _, e_BadForm_init_, ok_BadForm F_BadForm_init_ (T.own 7 (by decide) (by decide)) A0.n7, M.at_, beq_iff_eq.mp M.fn, b_BadForm_init_⟩
  have i8 : Ini P w K mg base "BadName" "name" (cC K 8) := by
    have M := He.meth_ok (c0.fact 18 (f := .meth "BadName" "__init__") rfl)
    exact ⟨N.g8, T.own 8 (by decide) (by decide), _, e_BadName_init_, ok_BadName F_BadName_init_ (T.own 8 (by decide) (by decide)) A0.n8, M.at_, beq_iff_eq.mp M.fn, b_BadName_init_⟩
  have i9 : Ini P w K mg base "Unknown" "name" (cC K 9) := by
    have M := He.meth_ok (c0.fact 21 (f := .meth "Unknown" "__init__") rfl)
    exact ⟨N.g9, T.own 9 (by decide) (by decide), _, e_Unknown_init_, ok_Unknown F_Unknown_init_ (T.own 9 (by decide) (by decide)) A0.n9, M.at_, beq_iff_eq.mp M.fn, b_Unknown_init_⟩
  have i10 : Ini P w K mg base "Missing" "name" (cC K 10) := by
    have M := He.meth_ok (c0.fact 24 (f := .meth "Missing" "__init__") rfl)
    exact ⟨N.g10, T.own 10 (by decide) (by decide), _, e_Missing_init_, ok_Missing F_Missing_init_ (T.own 10 (by decide) (by decide)) A0.n10, M.at_, beq_iff_eq.mp M.fn, b_Missing_init_⟩
  have i11 : Ini P w K mg base "BadValue" "name" (cC K 11) := by
    have M := He.meth_ok (c0.fact 27 (f := .meth "BadValue" "__init__") rfl)
    exact ⟨N.g11, T.own 11 (by decide) (by decide), _, e_BadValue_init_, ok_BadValue F_BadValue_init_ (T.own 11 (by decide) (by decide)) A0.n11, M.at_, beq_iff_eq.mp M.fn, b_BadValue_init_⟩
  have i12 : Ini P w K mg base "NotSingle" "text" (cC K 12) := by
    have M := He.meth_ok (c0.fact 30 (f := .meth "NotSingle" "__init__") rfl)
    exact ⟨N.g12, T.own 12 (by decide) (by decide), _, e_NotSingle_init_, ok_NotSingle F_NotSingle_init_ (T.own 12 (by decide) (by decide)) A0.n12, M.at_, beq_iff_eq.mp M.fn, b_NotSingle_init_⟩
  have i13 : Ini P w K mg base "NotWithin" "text" (cC K 13) := by
    have M := He.meth_ok (c0.fact 33 (f := .meth "NotWithin" "__init__") rfl)
    exact ⟨N.g13, T.own 13 (by decide) (by decide), _, e_NotWithin_init_, ok_NotWithin F_NotWithin_init_ (T.own 13 (by decide) (by decide)) A0.n13, M.at_, beq_iff_eq.mp M.fn, b_NotWithin_init_⟩
  have i14 : Ini P w K mg base "NoForm" "name" (cC K 14) := by
    have M := He.meth_ok (c0.fact 36 (f := .meth "NoForm" "__init__") rfl)
    exact ⟨N.g14, T.own 14 (by decide) (by decide), _, e_NoForm_init_, ok_NoForm F_NoForm_init_ (T.own 14 (by decide) (by decide)) A0.n14, M.at_, beq_iff_eq.mp M.fn, b_NoForm_init_⟩
  have i15 : Ini P w K mg base "BadNumber" "number" (cC K 15) := by
    have M := He.meth_ok (c0.fact 39 (f := .meth "BadNumber" "__init__") rfl)
    exact ⟨N.g15, T.own 15 (by decide) (by decide), _, e_BadNumber_init_, ok_BadNumber F_BadNumber_init_ (T.own 15 (by decide) (by decide)) A0.n15, M.at_, beq_iff_eq.mp M.fn, b_BadNumber_init_⟩
  have i16 : Ini P w K mg base "TooWide" "line" (cC K 16) := by
    have M := He.meth_ok (c0.fact 42 (f := .meth "TooWide" "__init__") rfl)
    exact ⟨N.g16, T.own 16 (by decide) (by decide), _, e_TooWide_init_, ok_TooWide F_TooWide_init_ (T.own 16 (by decide) (by decide)) A0.n16, M.at_, beq_iff_eq.mp M.fn, b_TooWide_init_⟩
  have i17 : Ini P w K mg base "BadShort" "name" (cC K 17) := by
    have M := He.meth_ok (c0.fact 45 (f := .meth "BadShort" "__init__") rfl)
    exact ⟨N.g17, T.own 17 (by decide) (by decide), _, e_BadShort_init_, ok_BadShort F_BadShort_init_ (T.own 17 (by decide) (by decide)) A0.n17, M.at_, beq_iff_eq.mp M.fn, b_BadShort_init_⟩
  have W : Twelve P w K mg base := ⟨i6, i7, i8, i9, i10, i11, i12, i13, i14, i15, i16, i17⟩
  have mi := He.free_ok X G (c0.fact 60 (f := .free "isinstance") rfl)
  have ml := He.free_ok X G (c0.fact 61 (f := .free "len") rfl)
  have mn := He.free_ok X G (c0.fact 62 (f := .free "int") rfl)
  have ms := He.free_ok X G (c0.fact 63 (f := .free "list") rfl)
  have mr := He.free_ok X G (c0.fact 64 (f := .free "range") rfl)
  have mv := He.free_ok X G (c0.fact 65 (f := .free "ValueError") rfl)
  have GP := ok_plain (P := P) (w := w) (base := base) F_l_raise_plain p0 p1 p2 p3 p4 p5
  have GR := ok_raise F_l_raise W GP (He.glo_ok X G (c0.fact 4 (f := .glo "_law_raise_plain") rfl)) F_l_raise_plain.kp b_l_raise_plain
  have GC := ok_classes (P := P) (w := w) (base := base) F_l_classes T N mi
  have gR := He.glo_ok X G (c0.fact 5 (f := .glo "_law_raise") rfl)
  have GY := ok_by_base F_l_by_base T N mi mv GR gR F_l_raise.kp b_l_raise GC (He.glo_ok X G (c0.fact 6 (f := .glo "_law_classes") rfl)) F_l_classes.kp b_l_classes
  have GN := ok_number F_l_number_of T N A0 GR gR F_l_raise.kp b_l_raise
  have GM := ok_name F_l_name_of T N A0 GR gR F_l_raise.kp b_l_raise
  have GB := ok_bag (P := P) (w := w) (base := base) F_l_bag ms
  have GD := ok_draw (P := P) (w := w) (base := base) F_l_draw ml mn
  have GA := ok_alpha (P := P) (w := w) (K := K) (mg := mg) (base := base) F_l_alphabet
  have gD := He.glo_ok X G (c0.fact 1 (f := .glo "_law_draw") rfl)
  have GL := ok_letters F_l_letters ms ml mr GA (He.glo_ok X G (c0.fact 2 (f := .glo "_law_alphabet") rfl)) F_l_alphabet.kp b_l_alphabet GD gD F_l_draw.kp b_l_draw
  exact ok_law F_law ⟨⟨_, _, GB, He.glo_ok X G (c0.fact 0 (f := .glo "_law_bag") rfl), F_l_bag.kp, b_l_bag⟩, ⟨_, _, GD, gD, F_l_draw.kp, b_l_draw⟩, ⟨_, _, GL, He.glo_ok X G (c0.fact 3 (f := .glo "_law_letters") rfl), F_l_letters.kp, b_l_letters⟩, ⟨_, _, GY, He.glo_ok X G (c0.fact 7 (f := .glo "_law_by_base") rfl), F_l_by_base.kp, b_l_by_base⟩, ⟨_, _, GN, He.glo_ok X G (c0.fact 8 (f := .glo "_law_number_of") rfl), F_l_number_of.kp, b_l_number_of⟩, ⟨_, _, GM, He.glo_ok X G (c0.fact 9 (f := .glo "_law_name_of") rfl), F_l_name_of.kp, b_l_name_of⟩⟩ mr
end K07
open PySem PySem.W PySem.Calls PyProof.Rows
set_option maxRecDepth 100000 in
set_option maxHeartbeats 0 in
theorem PySem.Challenge.cw_townlines_k07_errors_apart_holds : PySem.Challenge.rw_townlines_k07_errors_apart.Holds := by
  w_on; o_law
  refine HandSHeadRun.head_any (r := OpenLaw.row PySem.Challenge.rw_townlines_k07_errors_apart) (q := view (OpenLaw.row PySem.Challenge.rw_townlines_k07_errors_apart).prog [31]) (H := K07.hk) (ob := K07.ob) (M := 30000) (loose := K07.loose) (d := HandSHeadRun.topDef (OpenLaw.row PySem.Challenge.rw_townlines_k07_errors_apart).prog 31) (kwd := []) K07.ob_eq
    (by kernel_rfl) (fun s => by kernel_rfl) K07.run (by kernel_rfl) (by kernel_rfl) (by kernel_rfl) (by rfl) (by first | assumption | decide +kernel) (by decide +kernel) ⟨rfl, rfl, rfl, rfl, rfl, by decide +kernel⟩ ?hw ?hc
  case hw => w_witness2
  case hc =>
    refine L2.walk_ofE (l := PySem.Challenge.rw_townlines_k07_errors_apart) (n := 63) (k := 5) (x := "_law_script") (CX := L2.CX0) rfl (by decide) (by kernel_rfl) ⟨rfl, by decide, by decide⟩ ?F (fun _ _ _ _ z => z)
    intro w mg fa h Y G hmg0
    obtain ⟨K, KX, c⟩ := Y
    have hmg : mg ("law" : PySem.Str) = some (.ref fa) := by
      have e : (HandSHeadRun.topDef (OpenLaw.row PySem.Challenge.rw_townlines_k07_errors_apart).prog 31).name = ("law" : PySem.Str) := by kernel_rfl
      rw [← e]
      exact hmg0
    obtain ⟨fd, hb, hF⟩ := K07.facts (P := (PySem.Challenge.rw_townlines_k07_errors_apart).prog) (w := w) KX G hmg c.t.d c.more
    exact ⟨K, fd, K07.spLaw K, KX, hb, fun H a ns hl _ hS => ⟨a, ns, rfl, hS, hl, fun _ => rfl⟩, hF⟩
#print axioms PySem.Challenge.cw_townlines_k07_errors_apart_holds

