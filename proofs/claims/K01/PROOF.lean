import PyProof.Rows.All
import Wide.All
import OpenK.AllK
import Wide.FinOn
import KE.KStateDown
import HandS.ForMost
import HandS.ForExc
import HandS.IsInst
import HandS.Defaults
import HandS.Head0
import HandS.Head1
import HandS.Head2
import HandS.HeadEnd
import HandS.HeadHook1
import HandS.HeadHook2
import HandS.HeadHook3
import HandS.HeadHook4
import PyProof.StrBlock2
import KE.KOpsOwn
import PyProof.MeetsIn
import PyProof.Rows.StrBool
import HandS.Walk
import HandS.Set
import HandS.More
import HandS.Strs
import HandS.Wide
import HandS.Codes
import HandS.TupLe
import PySem.Challenge.RW_townlines_k01_signs_operators
set_option Elab.async false
set_option linter.all false
set_option maxRecDepth 100000
set_option maxHeartbeats 8000000
namespace K01
open PySem PySem.Spec PyProof.Rows L2
/-! ### the text -/
def top (i : Nat) : Stmt := PySem.Challenge.pw_townlines_k01_signs_operators.main.body.getD i (.Pass ⟨0, 0, 0, 0⟩)
abbrev s_Signs_init_ : Stmt := inClass (top 6) 0
abbrev s_Signs_or_ : Stmt := inClass (top 6) 5
abbrev s_Signs_ror_ : Stmt := inClass (top 6) 6
abbrev s_Signs_ior_ : Stmt := inClass (top 6) 7
abbrev s_Signs_and_ : Stmt := inClass (top 6) 8
abbrev s_Signs_rand_ : Stmt := inClass (top 6) 9
abbrev s_Signs_sub_ : Stmt := inClass (top 6) 10
abbrev s_Signs_rsub_ : Stmt := inClass (top 6) 11
abbrev s_Signs_invert_ : Stmt := inClass (top 6) 12
abbrev s_Signs_eq_ : Stmt := inClass (top 6) 13
abbrev s_Signs_len_ : Stmt := inClass (top 6) 14
abbrev s_Signs_bool_ : Stmt := inClass (top 6) 15
abbrev s_Signs_contains_ : Stmt := inClass (top 6) 16
abbrev s_Signswithin : Stmt := inClass (top 6) 17
abbrev s_Signsleast : Stmt := inClass (top 6) 18
abbrev s_Signsspelled : Stmt := inClass (top 6) 19
abbrev s_is_sign : Stmt := top 7
abbrev s_is_sign_text : Stmt := top 8
abbrev s_signs_of : Stmt := top 9
abbrev s_kept_signs : Stmt := top 10
abbrev s_other_signs : Stmt := top 11
abbrev s_l_bag : Stmt := top 13
abbrev s_l_draw : Stmt := top 14
abbrev s_l_alphabet : Stmt := top 15
abbrev s_l_letters : Stmt := top 16
abbrev s_l_flag : Stmt := top 17
abbrev s_l_once : Stmt := top 18
abbrev s_l_string : Stmt := top 19
abbrev s_l_is : Stmt := top 20
abbrev s_l_pairs : Stmt := top 21
abbrev s_law : Stmt := top 22
/-! ### names and parameters -/
theorem sc_Signs_init_ : FnScope ["self", "text", "sign"] ["self", "text"] (defScope s_Signs_init_) := ⟨rfl, rfl, rfl, by decide +kernel, rfl, by decide +kernel, by decide +kernel⟩
theorem sc_Signs_or_ : FnScope ["self", "other"] ["self", "other"] (defScope s_Signs_or_) := ⟨rfl, rfl, rfl, by decide +kernel, rfl, by decide +kernel, by decide +kernel⟩
theorem sc_Signs_ror_ : FnScope ["self", "other"] ["self", "other"] (defScope s_Signs_ror_) := ⟨rfl, rfl, rfl, by decide +kernel, rfl, by decide +kernel, by decide +kernel⟩
theorem sc_Signs_ior_ : FnScope ["self", "other"] ["self", "other"] (defScope s_Signs_ior_) := ⟨rfl, rfl, rfl, by decide +kernel, rfl, by decide +kernel, by decide +kernel⟩
theorem sc_Signs_and_ : FnScope ["self", "other"] ["self", "other"] (defScope s_Signs_and_) := ⟨rfl, rfl, rfl, by decide +kernel, rfl, by decide +kernel, by decide +kernel⟩
theorem sc_Signs_rand_ : FnScope ["self", "other"] ["self", "other"] (defScope s_Signs_rand_) := ⟨rfl, rfl, rfl, by decide +kernel, rfl, by decide +kernel, by decide +kernel⟩
theorem sc_Signs_sub_ : FnScope ["self", "other"] ["self", "other"] (defScope s_Signs_sub_) := ⟨rfl, rfl, rfl, by decide +kernel, rfl, by decide +kernel, by decide +kernel⟩
theorem sc_Signs_rsub_ : FnScope ["self", "other"] ["self", "other"] (defScope s_Signs_rsub_) := ⟨rfl, rfl, rfl, by decide +kernel, rfl, by decide +kernel, by decide +kernel⟩
theorem sc_Signs_invert_ : FnScope ["self"] ["self"] (defScope s_Signs_invert_) := ⟨rfl, rfl, rfl, by decide +kernel, rfl, by decide +kernel, by decide +kernel⟩
theorem sc_Signs_eq_ : FnScope ["self", "other"] ["self", "other"] (defScope s_Signs_eq_) := ⟨rfl, rfl, rfl, by decide +kernel, rfl, by decide +kernel, by decide +kernel⟩
theorem sc_Signs_len_ : FnScope ["self"] ["self"] (defScope s_Signs_len_) := ⟨rfl, rfl, rfl, by decide +kernel, rfl, by decide +kernel, by decide +kernel⟩
theorem sc_Signs_bool_ : FnScope ["self"] ["self"] (defScope s_Signs_bool_) := ⟨rfl, rfl, rfl, by decide +kernel, rfl, by decide +kernel, by decide +kernel⟩
theorem sc_Signs_contains_ : FnScope ["self", "x"] ["self", "x"] (defScope s_Signs_contains_) := ⟨rfl, rfl, rfl, by decide +kernel, rfl, by decide +kernel, by decide +kernel⟩
theorem sc_Signswithin : FnScope ["self", "other"] ["self", "other"] (defScope s_Signswithin) := ⟨rfl, rfl, rfl, by decide +kernel, rfl, by decide +kernel, by decide +kernel⟩
theorem sc_Signsleast : FnScope ["self"] ["self"] (defScope s_Signsleast) := ⟨rfl, rfl, rfl, by decide +kernel, rfl, by decide +kernel, by decide +kernel⟩
theorem sc_Signsspelled : FnScope ["self"] ["self"] (defScope s_Signsspelled) := ⟨rfl, rfl, rfl, by decide +kernel, rfl, by decide +kernel, by decide +kernel⟩
theorem sc_is_sign : FnScope ["thing"] ["thing"] (defScope s_is_sign) := ⟨rfl, rfl, rfl, by decide +kernel, rfl, by decide +kernel, by decide +kernel⟩
theorem sc_is_sign_text : FnScope ["thing", "sign"] ["thing"] (defScope s_is_sign_text) := ⟨rfl, rfl, rfl, by decide +kernel, rfl, by decide +kernel, by decide +kernel⟩
theorem sc_signs_of : FnScope ["thing"] ["thing"] (defScope s_signs_of) := ⟨rfl, rfl, rfl, by decide +kernel, rfl, by decide +kernel, by decide +kernel⟩
theorem sc_kept_signs : FnScope ["signs", "others", "sign"] ["signs", "others"] (defScope s_kept_signs) := ⟨rfl, rfl, rfl, by decide +kernel, rfl, by decide +kernel, by decide +kernel⟩
theorem sc_other_signs : FnScope ["signs", "others", "sign"] ["signs", "others"] (defScope s_other_signs) := ⟨rfl, rfl, rfl, by decide +kernel, rfl, by decide +kernel, by decide +kernel⟩
theorem sc_l_bag : FnScope ["_law_script"] ["_law_script"] (defScope s_l_bag) := ⟨rfl, rfl, rfl, by decide +kernel, rfl, by decide +kernel, by decide +kernel⟩
theorem sc_l_draw : FnScope ["_law_bag_here", "_law_limit", "_law_cell", "_law_number", "_law_drawn", "_law_one"] ["_law_bag_here", "_law_limit"] (defScope s_l_draw) := ⟨rfl, rfl, rfl, by decide +kernel, rfl, by decide +kernel, by decide +kernel⟩
theorem sc_l_alphabet : FnScope ["_law_first"] [] (defScope s_l_alphabet) := ⟨rfl, rfl, rfl, by decide +kernel, rfl, by decide +kernel, by decide +kernel⟩
theorem sc_l_letters : FnScope ["_law_bag_here", "_law_many", "_law_rest", "_law_found", "_law_k"] ["_law_bag_here", "_law_many"] (defScope s_l_letters) := ⟨rfl, rfl, rfl, by decide +kernel, rfl, by decide +kernel, by decide +kernel⟩
theorem sc_l_flag : FnScope ["_law_actual", "_law_due"] ["_law_actual", "_law_due"] (defScope s_l_flag) := ⟨rfl, rfl, rfl, by decide +kernel, rfl, by decide +kernel, by decide +kernel⟩
theorem sc_l_once : FnScope ["_law_text"] ["_law_text"] (defScope s_l_once) := ⟨rfl, rfl, rfl, by decide +kernel, rfl, by decide +kernel, by decide +kernel⟩
theorem sc_l_string : FnScope ["_law_bag_here", "_law_letters_here", "_law_k"] ["_law_bag_here", "_law_letters_here"] (defScope s_l_string) := ⟨rfl, rfl, rfl, by decide +kernel, rfl, by decide +kernel, by decide +kernel⟩
theorem sc_l_is : FnScope ["_law_actual", "_law_due"] ["_law_actual", "_law_due"] (defScope s_l_is) := ⟨rfl, rfl, rfl, by decide +kernel, rfl, by decide +kernel, by decide +kernel⟩
theorem sc_l_pairs : FnScope ["_law_one", "_law_two", "_law_first", "_law_second", "_law_joined", "_law_sign", "_law_shared", "_law_less"] ["_law_one", "_law_two", "_law_first", "_law_second"] (defScope s_l_pairs) := ⟨rfl, rfl, rfl, by decide +kernel, rfl, by decide +kernel, by decide +kernel⟩
theorem sc_law : FnScope ["_law_script", "_law_bag_here", "_law_letters_here", "_law_one", "_law_two", "_law_probe", "_law_first", "_law_second", "_law_right", "_law_sign", "_law_rest", "_law_bound", "_law_due", "_law_total"] ["_law_script"] (defScope s_law) := ⟨rfl, rfl, rfl, by decide +kernel, rfl, by decide +kernel, by decide +kernel⟩
/-! ### what the top leaves -/
def d_Signs_init_ : He.DefD := ⟨("Signs", some "__init__"), "__init__", "Signs.__init__", defArgs s_Signs_init_, defBody s_Signs_init_, defScope s_Signs_init_, [.str ""], []⟩
def d_Signs_or_ : He.DefD := ⟨("Signs", some "__or__"), "__or__", "Signs.__or__", defArgs s_Signs_or_, defBody s_Signs_or_, defScope s_Signs_or_, [], []⟩
def d_Signs_ror_ : He.DefD := ⟨("Signs", some "__ror__"), "__ror__", "Signs.__ror__", defArgs s_Signs_ror_, defBody s_Signs_ror_, defScope s_Signs_ror_, [], []⟩
def d_Signs_ior_ : He.DefD := ⟨("Signs", some "__ior__"), "__ior__", "Signs.__ior__", defArgs s_Signs_ior_, defBody s_Signs_ior_, defScope s_Signs_ior_, [], []⟩
def d_Signs_and_ : He.DefD := ⟨("Signs", some "__and__"), "__and__", "Signs.__and__", defArgs s_Signs_and_, defBody s_Signs_and_, defScope s_Signs_and_, [], []⟩
def d_Signs_rand_ : He.DefD := ⟨("Signs", some "__rand__"), "__rand__", "Signs.__rand__", defArgs s_Signs_rand_, defBody s_Signs_rand_, defScope s_Signs_rand_, [], []⟩
def d_Signs_sub_ : He.DefD := ⟨("Signs", some "__sub__"), "__sub__", "Signs.__sub__", defArgs s_Signs_sub_, defBody s_Signs_sub_, defScope s_Signs_sub_, [], []⟩
def d_Signs_rsub_ : He.DefD := ⟨("Signs", some "__rsub__"), "__rsub__", "Signs.__rsub__", defArgs s_Signs_rsub_, defBody s_Signs_rsub_, defScope s_Signs_rsub_, [], []⟩
def d_Signs_invert_ : He.DefD := ⟨("Signs", some "__invert__"), "__invert__", "Signs.__invert__", defArgs s_Signs_invert_, defBody s_Signs_invert_, defScope s_Signs_invert_, [], []⟩
def d_Signs_eq_ : He.DefD := ⟨("Signs", some "__eq__"), "__eq__", "Signs.__eq__", defArgs s_Signs_eq_, defBody s_Signs_eq_, defScope s_Signs_eq_, [], []⟩
def d_Signs_len_ : He.DefD := ⟨("Signs", some "__len__"), "__len__", "Signs.__len__", defArgs s_Signs_len_, defBody s_Signs_len_, defScope s_Signs_len_, [], []⟩
def d_Signs_bool_ : He.DefD := ⟨("Signs", some "__bool__"), "__bool__", "Signs.__bool__", defArgs s_Signs_bool_, defBody s_Signs_bool_, defScope s_Signs_bool_, [], []⟩
def d_Signs_contains_ : He.DefD := ⟨("Signs", some "__contains__"), "__contains__", "Signs.__contains__", defArgs s_Signs_contains_, defBody s_Signs_contains_, defScope s_Signs_contains_, [], []⟩
def d_Signswithin : He.DefD := ⟨("Signs", some "within"), "within", "Signs.within", defArgs s_Signswithin, defBody s_Signswithin, defScope s_Signswithin, [], []⟩
def d_Signsleast : He.DefD := ⟨("Signs", some "least"), "least", "Signs.least", defArgs s_Signsleast, defBody s_Signsleast, defScope s_Signsleast, [], []⟩
def d_Signsspelled : He.DefD := ⟨("Signs", some "spelled"), "spelled", "Signs.spelled", defArgs s_Signsspelled, defBody s_Signsspelled, defScope s_Signsspelled, [], []⟩
def d_is_sign : He.DefD := ⟨("is_sign", none), "is_sign", "is_sign", defArgs s_is_sign, defBody s_is_sign, defScope s_is_sign, [], []⟩
def d_is_sign_text : He.DefD := ⟨("is_sign_text", none), "is_sign_text", "is_sign_text", defArgs s_is_sign_text, defBody s_is_sign_text, defScope s_is_sign_text, [], []⟩
def d_signs_of : He.DefD := ⟨("signs_of", none), "signs_of", "signs_of", defArgs s_signs_of, defBody s_signs_of, defScope s_signs_of, [], []⟩
def d_kept_signs : He.DefD := ⟨("kept_signs", none), "kept_signs", "kept_signs", defArgs s_kept_signs, defBody s_kept_signs, defScope s_kept_signs, [], []⟩
def d_other_signs : He.DefD := ⟨("other_signs", none), "other_signs", "other_signs", defArgs s_other_signs, defBody s_other_signs, defScope s_other_signs, [], []⟩
def d_l_bag : He.DefD := ⟨("_law_bag", none), "_law_bag", "_law_bag", defArgs s_l_bag, defBody s_l_bag, defScope s_l_bag, [], []⟩
def d_l_draw : He.DefD := ⟨("_law_draw", none), "_law_draw", "_law_draw", defArgs s_l_draw, defBody s_l_draw, defScope s_l_draw, [], []⟩
def d_l_alphabet : He.DefD := ⟨("_law_alphabet", none), "_law_alphabet", "_law_alphabet", defArgs s_l_alphabet, defBody s_l_alphabet, defScope s_l_alphabet, [], []⟩
def d_l_letters : He.DefD := ⟨("_law_letters", none), "_law_letters", "_law_letters", defArgs s_l_letters, defBody s_l_letters, defScope s_l_letters, [], []⟩
def d_l_flag : He.DefD := ⟨("_law_flag", none), "_law_flag", "_law_flag", defArgs s_l_flag, defBody s_l_flag, defScope s_l_flag, [], []⟩
def d_l_once : He.DefD := ⟨("_law_once", none), "_law_once", "_law_once", defArgs s_l_once, defBody s_l_once, defScope s_l_once, [], []⟩
def d_l_string : He.DefD := ⟨("_law_string", none), "_law_string", "_law_string", defArgs s_l_string, defBody s_l_string, defScope s_l_string, [], []⟩
def d_l_is : He.DefD := ⟨("_law_is", none), "_law_is", "_law_is", defArgs s_l_is, defBody s_l_is, defScope s_l_is, [], []⟩
def d_l_pairs : He.DefD := ⟨("_law_pairs", none), "_law_pairs", "_law_pairs", defArgs s_l_pairs, defBody s_l_pairs, defScope s_l_pairs, [], []⟩
def d_law : He.DefD := ⟨("law", none), "law", "law", defArgs s_law, defBody s_law, defScope s_law, [], []⟩
def fn : List He.DefD := [d_Signs_init_, d_Signs_or_, d_Signs_ror_, d_Signs_ior_, d_Signs_and_, d_Signs_rand_, d_Signs_sub_, d_Signs_rsub_, d_Signs_invert_, d_Signs_eq_, d_Signs_len_, d_Signs_bool_, d_Signs_contains_, d_Signswithin, d_Signsleast, d_Signsspelled, d_is_sign, d_is_sign_text, d_signs_of, d_kept_signs, d_other_signs, d_l_bag, d_l_draw, d_l_alphabet, d_l_letters, d_l_flag, d_l_once, d_l_string, d_l_is, d_l_pairs, d_law]
def fa : List He.Fa := [.glo "is_sign", .glo "is_sign_text", .glo "signs_of", .glo "kept_signs", .glo "other_signs", .glo "_law_bag", .glo "_law_draw", .glo "_law_alphabet", .glo "_law_letters", .glo "_law_flag", .glo "_law_once", .glo "_law_string", .glo "_law_is", .glo "_law_pairs", .glo "law", .glo "Signs", .cls "Signs", .mkr "Signs", .meth "Signs" "__init__", .meth "Signs" "__or__", .meth "Signs" "__ror__", .meth "Signs" "__ior__", .meth "Signs" "__and__", .meth "Signs" "__rand__", .meth "Signs" "__sub__", .meth "Signs" "__rsub__", .meth "Signs" "__invert__", .meth "Signs" "__eq__", .meth "Signs" "__len__", .meth "Signs" "__bool__", .meth "Signs" "__contains__", .meth "Signs" "within", .meth "Signs" "least", .meth "Signs" "spelled", .noat "Signs" "signs", .glo "BadSigns", .exc "BadSigns", .free "isinstance", .free "str", .free "all", .free "len", .free "int", .free "list", .free "set", .free "sorted", .free "range", .free "bool", .str "SIGNS" " !\"#$&'()*+,-./0123456789:;<=>?@ABCDEFGHIJKLMNOPQRSTUVWXYZ[\\]^_`abcdefghijklmnopqrstuvwxyz{|}~"]
def ex (K : PySem.W.Frag) : Bool := ((PySem.W.selfFirst K (He.ga K "Signs")) && ((decide (PySem.W.kitOne K (.type "str") (.ref (He.ga K "Signs")) = some false)) && ((decide (PySem.W.kitOne K (.ref (He.ga K "Signs")) (.ref (He.ga K "Signs")) = some true)) && ((decide (PySem.W.subIn K (.type "str") (.ref (He.ga K "Signs")) = some false)) && ((["or", "and", "sub"].all fun m => He.eqO (PySem.W.findIn K (.type "str") (PySem.dunder m)) (some none) && He.eqO (PySem.W.findIn K (.type "str") (PySem.dunderR m)) (some none)) && ((He.eqO (PySem.W.findIn K (.ref (He.ga K "Signs")) "__class__") (some (some (.builtin "object.__class__")))) && ((He.eqO (PySem.W.specialIn K (.builtin "object.__class__") "__get__") (some (some (.builtin "getset_descriptor.__get__")))) && ((decide (PySem.W.takesIn K (.builtin "object.__class__") = some true)) && (decide (PySem.W.mroIn K (He.ga K "Signs") (.type "object") = some true))))))))))
abbrev R : PySem.W.OpenRow := PySem.W.OpenLaw.row PySem.Challenge.rw_townlines_k01_signs_operators
abbrev hk : PySem.W.Hook := He.hookX 5 fa fn [] [] ex
def ob (s : PySem.W.SharedT) : He.AlX := He.obsX 5 fa fn [] [] ex (HandSHeadRun.getT s)
theorem ob_eq (s : PySem.W.SharedT) : ob s = hk.obs s.abs := He.obsX_eq (HandSHeadRun.getT_eq s)
abbrev loose : List PySem.Str := ["_wall", "__name__", "TownError", "BadSigns", "SIGNS", "Signs", "is_sign", "is_sign_text", "signs_of", "kept_signs", "other_signs", "_law_bag", "_law_draw", "_law_alphabet", "_law_letters", "_law_flag", "_law_once", "_law_string", "_law_is", "_law_pairs"]
set_option maxHeartbeats 0 in
theorem run (w : World) : HandSHeadRun.RunEq R (PySem.W.view R.prog [22]) hk ob 3000 loose w := by
  intro os
  kernel_rfl
end K01

/-! Texts as lists of codes: list(text), text * n, join of signs. -/
namespace Tl
open PySem PySem.Spec PyProof.Rows L2
/-- the text of these codes -/
def tx (l : List Nat) : Str := ⟨l.toArray⟩
def cs (z : Str) : List Nat := z.cps.toList
/-- the text of one sign -/
def sg (n : Nat) : Str := ⟨#[n]⟩
theorem cs_tx (l : List Nat) : cs (tx l) = l := rfl
theorem tx_cs (z : Str) : tx (cs z) = z := by
  obtain ⟨⟨l⟩⟩ := z
  rfl
theorem tx_inj {l k : List Nat} (h : tx l = tx k) : l = k := congrArg cs h
theorem tx_eq {l k : List Nat} : tx l = tx k ↔ l = k := ⟨tx_inj, fun e => by rw [e]⟩
theorem len_tx (l : List Nat) : (tx l).length = l.length := rfl
theorem len_cs (z : Str) : (cs z).length = z.length := Array.length_toList
theorem sg_inj {n m : Nat} (h : sg n = sg m) : n = m := by
  have e : [n] = [m] := congrArg cs h
  injection e
theorem tx_app (l k : List Nat) : tx l ++ tx k = tx (l ++ k) := by
  show (⟨l.toArray ++ k.toArray⟩ : Str) = ⟨(l ++ k).toArray⟩
  rw [List.append_toArray]
theorem glue_sg : ∀ (l : List Nat) (a : Array Nat), (l.map sg).foldl (fun acc p => acc ++ (tx []).cps ++ p.cps) a = a ++ l.toArray
  | [], a => by simp
  | n :: l, a => by
    rw [List.map_cons, List.foldl_cons, glue_sg l]
    simp [tx, sg]
theorem join_sg (l : List Nat) : Txt.join (tx []) (l.map sg) = tx l := by
  cases l with
  | nil => rfl
  | cons n l =>
    show (⟨((List.map sg (n :: l)).drop 1).foldl _ _⟩ : Str) = _
    rw [List.map_cons, List.drop_one, List.tail_cons, glue_sg]
    show (⟨#[n] ++ l.toArray⟩ : Str) = ⟨(n :: l).toArray⟩
    congr 1
    simp
theorem sum_sg (l : List Nat) : ((l.map sg).map (·.length)).sum = l.length := by
  induction l with
  | nil => rfl
  | cons n l ih =>
    rw [List.map_cons, List.map_cons, List.sum_cons, ih, List.length_cons]
    show 1 + l.length = l.length + 1
    omega
theorem fold_rep (x : Array Nat) : ∀ (k : Nat) (a : Array Nat), ((List.replicate k x).foldl (· ++ ·) a).toList = a.toList ++ (List.replicate k x.toList).flatten
  | 0, a => by simp
  | k + 1, a => by
    rw [List.replicate_succ, List.foldl_cons, fold_rep x k, List.replicate_succ, List.flatten_cons, Array.toList_append, List.append_assoc]
theorem mul_cs (z : Str) (k : Nat) : cs (Txt.mul z (k : Int)) = (List.replicate k (cs z)).flatten := by
  unfold Txt.mul
  by_cases h0 : (k : Int) < 1
  · rw [if_pos h0]
    have e : k = 0 := by omega
    subst e
    rfl
  · rw [if_neg h0]
    by_cases h1 : ((k : Int) == 1 || z.length == 0) = true
    · rw [if_pos h1]
      rcases Bool.or_eq_true_iff.mp h1 with e | e
      · have e : k = 1 := by
          have := beq_iff_eq.mp e
          omega
        subst e
        show cs z = (List.replicate 1 (cs z)).flatten
        simp [List.replicate]
      · have e1 : cs z = [] := by
          apply List.eq_nil_of_length_eq_zero
          rw [len_cs]
          exact beq_iff_eq.mp e
        rw [e1]
        induction k with
        | zero => rfl
        | succ k ih => simp
    · rw [if_neg h1]
      show ((List.replicate (k : Int).toNat z.cps).foldl (· ++ ·) #[]).toList = _
      rw [fold_rep, Int.toNat_natCast]
      rfl
section
variable {X : Cx}
/-- list(z), z a text -/
theorem call_listTx (hc : X.calm = true) : CallR X (.type "list") (fun vs H Q => ∃ l : List Nat, vs = [.str (tx l)] ∧ l.length ≤ sizeLine ∧ ∀ p, H p = none → Q (.ref p) (upd H p (.lst (l.map fun n => V.str (sg n))))) := by
  intro pins s σ H vs us Q I r h
  obtain ⟨l, rfl, hz, q⟩ := h
  obtain ⟨u, rfl, rx⟩ := vals1 r
  obtain ⟨t, rfl⟩ := rx
  refine call_list_str (I.ok.hd hc) (tx l) t (hn := hz) fun hq tk acc c hk hS hacc => ?_
  have hv : Vals (l.map fun n => V.str (sg n)) acc.toList := by
    have key : ∀ (k : List Nat) (us : List Value), us.length = k.length → (∀ (j : Nat) (v : Value), us[j]? = some v → ∃ (n : Nat) (u : Tok), k[j]? = some n ∧ v = Value.str (sg n) u) → Vals (k.map fun n => V.str (sg n)) us := by
      intro k
      induction k with
      | nil =>
        intro us hl _
        cases us with
        | nil => exact .nil
        | cons _ _ => cases hl
      | cons n k ih =>
        intro us hl h
        cases us with
        | nil => cases hl
        | cons v us =>
          obtain ⟨n', u, e1, e2⟩ := h 0 v rfl
          have e : n = n' := Option.some.inj e1
          subst e
          exact .cons ⟨u, e2⟩ (ih us (Nat.succ.inj hl) fun j v e => h (j + 1) v e)
    refine key l acc.toList (by rw [Array.length_toList]; exact hacc.1) fun j v e => ?_
    obtain ⟨n, u, e1, e2⟩ := hacc.2 j v (by rw [← Array.getElem?_toList]; exact e)
    exact ⟨n, u, by rw [← e1]; simp [tx], e2⟩
  exact ⟨.ref s.heap.objs.size, _, I.laid (t' := tk) hk (Nat.le_refl _) (show ObjOk X.prog X.w _ hq _ (.lst (l.map fun n => V.str (sg n))) from ⟨by rw [List.length_map]; exact hz, acc.toList, c, hv, by rw [Array.toArray_toList]; exact hS⟩), rfl, q _ (I.hok.fresh (Nat.le_refl _))⟩
/-- z * k -/
theorem op_mulTx : OpR X (binaryOp .Mult) (fun x y H Q => ∃ (l : List Nat) (k : Nat), x = .str (tx l) ∧ y = .int k ∧ k ≤ 1000000 ∧ l.length * k ≤ 16777216 ∧ Q (.str (tx (List.replicate k l).flatten)) H) := by
  intro pins s σ H x y v u Q I rx ry h
  obtain ⟨l, k, rfl, rfl, hk, hl, q⟩ := h
  obtain ⟨t, rfl⟩ := rx
  obtain ⟨t', rfl⟩ := ry
  have e : Txt.mul (tx l) (k : Int) = tx (List.replicate k l).flatten := by
    rw [← tx_cs (Txt.mul (tx l) (k : Int)), mul_cs, cs_tx]
  refine PySem.SB.mul (x := tx l) (n := (k : Int)) ⟨?_, fun h1 _ => ?_, fun h1 _ => ?_⟩ fun t2 tk => ?_
  · rw [decide_eq_false (by omega), decide_eq_false (by omega)]
    rfl
  · rw [len_tx]
    have h2 : 1 ≤ (k : Int) := by omega
    have h3 : (l.length : Int) ≤ 16777216 := by
      have : l.length ≤ l.length * k := Nat.le_mul_of_pos_right _ (by omega)
      omega
    have h4 : (16777216 : Int) ≤ (2 ^ 63 - 1) / (k : Int) := by
      apply Int.le_ediv_of_mul_le (by omega)
      omega
    omega
  · unfold Builtin.Str.tooLong
    rw [len_tx, Int.toNat_natCast, sizeLine_eq]
    exact decide_eq_false (by omega)
  · rw [e]
    exact ⟨.str (tx (List.replicate k l).flatten), H, I.tok tk, ⟨t2, rfl⟩, q⟩
end
end Tl

/-! Operators that an own class defines, as rules of the hand layer: a op b, str op a, ~a, x in a, len(a), bool(a), a op= b, a == b. -/
namespace Tl
open PySem PySem.Spec PyProof.Rows L2
theorem back_ok {X : Cx} {pins : List (Addr × Obj)} {σ : L2.St} {Q : VK} {u : Value} {s : Shared} (h : EP X pins σ Q u s) : PySem.W.CmpBack (EP X pins σ Q) u s := by
  cases u with
  | notImplemented =>
    obtain ⟨v, H', _, rv, _⟩ := h
    cases v <;> first | (exact nomatch rv) | (obtain ⟨_, e⟩ := rv; exact nomatch e)
  | _ => exact h
theorem relRef (a : Addr) : RelV (.ref a) (.ref a) := rfl
theorem relStr (z : Str) (t : Tok) : RelV (.str z) (.str z t) := ⟨t, rfl⟩
/-- the class at C, a method m of it at f, m an operator's name -/
structure OpC (K : PySem.W.Frag) (C : Addr) (m : Str) (f : Addr) : Prop where
  at_ : PySem.W.findIn K (.ref C) m = some (some (.ref f))
  fn : PySem.W.isFn K (.ref f) = true
section
variable {X : Cx} {CX : CXT} {k : Nat} {C f : Addr} {fd : FuncData} {ps : List Str} {sp : Sp} {E : XK}
theorem inst_of {pins : List (Addr × Obj)} {σ : L2.St} {H : Hp} {s : Shared} {a dx : Addr} {fs : List (Str × V)} (I : Inv X pins σ H s) (e : H a = some (.ins C dx fs)) : ∃ ox od, PySem.W.InstAt s.heap a ox C (some od) := by
  obtain ⟨mA, O, _, _, _, _⟩ := ins_get I.hok e
  obtain ⟨od, J, _⟩ := O.look
  exact ⟨_, od, J⟩
theorem run_op {pins : List (Addr × Obj)} {σ : L2.St} {H : Hp} {s : Shared} {Q : VK} {vs : List V} {us : List Value} (F : FnOk X.prog X.w X.K X.mg X.base CX k f fd ps sp) (hr : Room k X.A) (hb : Binds X.K fd ps []) (hx : Passes CX X E)
    (I : Inv X pins σ H s) (r : Vals vs us) (h : sp vs H Q E) : wpAny (model X.prog X.w) X.A (call (.ref f) us) (EP X pins σ Q) X.xe s :=
  run_fn (dvs := []) F hr hb .nil hx I r (by rw [List.append_nil]; exact h)
/-- a op b, both instances of C -/
def rBin (C : Addr) (sp : Sp) (E : XK) : R2 := fun x y H Q => ∃ a dx fs b dy gs, x = .ref a ∧ y = .ref b ∧ H a = some (.ins C dx fs) ∧ H b = some (.ins C dy gs) ∧ sp [.ref a, .ref b] H Q E
theorem op_bin {op : Operator} (hc : PySem.W.selfFirst X.K C = true) (M : OpC X.K C (PySem.dunder op.info.2) f) (F : FnOk X.prog X.w X.K X.mg X.base CX k f fd ps sp) (hr : Room k X.A) (hb : Binds X.K fd ps []) (hx : Passes CX X E) :
    OpR X (binaryOp op) (rBin C sp E) := by
  intro pins s σ H x y v u Q I rx ry h
  obtain ⟨a, dx, fs, b, dy, gs, rfl, rfl, ha, hb2, q⟩ := h
  cases rx
  cases ry
  obtain ⟨oa, da, Ja⟩ := inst_of I ha
  obtain ⟨ob, db, Jb⟩ := inst_of I hb2
  obtain ⟨mm, Fm⟩ := I.fr
  have one := run_op F hr hb hx I (.cons (relRef _) (.cons (relRef _) .nil)) q
  exact PySem.W.binop_K Fm I.mod.kin Ja Jb.type hc M.at_ M.fn (wpAny_mono one (fun _ _ z => back_ok z) fun _ _ z => z)
/-- a op z, a an instance of C, z a text -/
def rBinS (C : Addr) (sp : Sp) (E : XK) : R2 := fun x y H Q => ∃ a dx fs z, x = .ref a ∧ y = .str z ∧ H a = some (.ins C dx fs) ∧ sp [.ref a, .str z] H Q E
theorem op_binS {op : Operator} {fo ro rc : Option Value} (hc : PySem.W.selfFirst X.K C = true) (M : OpC X.K C (PySem.dunder op.info.2) f) (hR : PySem.W.findIn X.K (.ref C) (dunderR op.info.2) = some rc) (hp : rc = none ∨ ∃ g : Addr, rc = some (.ref g))
    (h1 : PySem.W.findIn X.K (.type "str") (PySem.dunder op.info.2) = some fo) (h2 : PySem.W.findIn X.K (.type "str") (dunderR op.info.2) = some ro) (hsub : PySem.W.subIn X.K (.type "str") (.ref C) = some false)
    (F : FnOk X.prog X.w X.K X.mg X.base CX k f fd ps sp) (hr : Room k X.A) (hb : Binds X.K fd ps []) (hx : Passes CX X E) : OpR X (binaryOp op) (rBinS C sp E) := by
  intro pins s σ H x y v u Q I rx ry h
  obtain ⟨a, dx, fs, z, rfl, rfl, ha, q⟩ := h
  cases rx
  obtain ⟨t, rfl⟩ := ry
  obtain ⟨oa, da, Ja⟩ := inst_of I ha
  obtain ⟨mm, Fm⟩ := I.fr
  have one := run_op F hr hb hx I (.cons (relRef _) (.cons (relStr z t) .nil)) q
  exact PySem.W.ksp_binT Fm I.mod.kin Ja (by rfl) hc M.at_ M.fn hR hp h1 h2 hsub (wpAny_mono one (fun _ _ z => back_ok z) fun _ _ z => z)
/-- ~a -/
def rInv (C : Addr) (sp : Sp) (E : XK) : V → Hp → VK → Prop := fun x H Q => ∃ a dx fs, x = .ref a ∧ H a = some (.ins C dx fs) ∧ sp [.ref a] H Q E
theorem un_own (M : OpC X.K C "__invert__" f) (F : FnOk X.prog X.w X.K X.mg X.base CX k f fd ps sp) (hr : Room k X.A) (hb : Binds X.K fd ps []) (hx : Passes CX X E) : UnR X (unaryOp .Invert) (rInv C sp E) := by
  intro pins s σ H x v Q I rx h
  obtain ⟨a, dx, fs, rfl, ha, q⟩ := h
  cases rx
  obtain ⟨oa, da, Ja⟩ := inst_of I ha
  obtain ⟨mm, Fm⟩ := I.fr
  have one := run_op F hr hb hx I (.cons (relRef _) .nil) q
  exact PySem.W.ksp_inv Fm I.mod.kin Ja M.at_ M.fn one
/-- x in a, the method handing back True or False -/
def rInO (C : Addr) (sp : Sp) (E : XK) (neg : Bool) : R2 := fun x y H Q => ∃ a dx fs, y = .ref a ∧ H a = some (.ins C dx fs) ∧ sp [.ref a, x] H (fun v H' => ∃ b, v = .bl b ∧ Q (.bl (if neg then !b else b)) H') E
theorem op_inO (M : OpC X.K C "__contains__" f) (F : FnOk X.prog X.w X.K X.mg X.base CX k f fd ps sp) (hr : Room k X.A) (hb : Binds X.K fd ps []) (hx : Passes CX X E) : OpR X (compareOp .In) (rInO C sp E false) := by
  intro pins s σ H x y v u Q I rx ry h
  obtain ⟨a, dx, fs, rfl, ha, q⟩ := h
  cases ry
  obtain ⟨oa, da, Ja⟩ := inst_of I ha
  obtain ⟨mm, Fm⟩ := I.fr
  have one := run_op F hr hb hx I (.cons (relRef _) (.cons rx .nil)) q
  refine PySem.W.in_K Fm I.mod.kin Ja M.at_ M.fn (wpAny_mono one (fun r s' z => ?_) fun _ _ z => z)
  obtain ⟨w, H', I', rw', b, rfl, q'⟩ := z
  cases rw'
  exact wpAny_truthy_bool ⟨.bl b, H', I', rfl, q'⟩
theorem op_notInO (M : OpC X.K C "__contains__" f) (F : FnOk X.prog X.w X.K X.mg X.base CX k f fd ps sp) (hr : Room k X.A) (hb : Binds X.K fd ps []) (hx : Passes CX X E) : OpR X (compareOp .NotIn) (rInO C sp E true) := by
  intro pins s σ H x y v u Q I rx ry h
  obtain ⟨a, dx, fs, rfl, ha, q⟩ := h
  cases ry
  obtain ⟨oa, da, Ja⟩ := inst_of I ha
  obtain ⟨mm, Fm⟩ := I.fr
  have one := run_op F hr hb hx I (.cons (relRef _) (.cons rx .nil)) q
  refine PySem.W.notIn_K Fm I.mod.kin Ja M.at_ M.fn (wpAny_mono one (fun r s' z => ?_) fun _ _ z => z)
  obtain ⟨w, H', I', rw', b, rfl, q'⟩ := z
  cases rw'
  exact wpAny_truthy_bool ⟨.bl (!b), H', I', rfl, q'⟩
/-- len(a) by an own method -/
def rLenO (C : Addr) (sp : Sp) (E : XK) : List V → Hp → VK → Prop := fun xs H Q => ∃ a dx fs, xs = [.ref a] ∧ H a = some (.ins C dx fs) ∧ sp [.ref a] H (fun v H' => ∃ n : Int, v = .int n ∧ 0 ≤ n ∧ n < 2 ^ 63 ∧ Q (.int n) H') E
/-- truth of a by an own method -/
def rTruO (C : Addr) (sp : Sp) (E : XK) : V → Hp → (Bool → Hp → Prop) → Prop := fun x H Q => ∃ a dx fs, x = .ref a ∧ H a = some (.ins C dx fs) ∧ sp [.ref a] H (fun v H' => ∃ b, v = .bl b ∧ Q b H') E
theorem tru_own (M : OpC X.K C "__bool__" f) (F : FnOk X.prog X.w X.K X.mg X.base CX k f fd ps sp) (hr : Room k X.A) (hb : Binds X.K fd ps []) (hx : Passes CX X E) : TruR X (rTruO C sp E) := by
  intro pins s σ H x v Q I rx h
  obtain ⟨a, dx, fs, rfl, ha, q⟩ := h
  cases rx
  obtain ⟨oa, da, Ja⟩ := inst_of I ha
  obtain ⟨mm, Fm⟩ := I.fr
  have one := run_op F hr hb hx I (.cons (relRef _) .nil) q
  refine PySem.W.truthy_K Fm I.mod.kin Ja M.at_ M.fn (wpAny_mono one (fun r s' z => ?_) fun _ _ z => z)
  obtain ⟨w, H', I', rw', b, rfl, q'⟩ := z
  cases rw'
  exact ⟨H', I', q'⟩
/-- a op= y -/
def rIp (C : Addr) (sp : Sp) (E : XK) : TIp := fun x y H Q => ∃ a dx fs, x = .ref a ∧ H a = some (.ins C dx fs) ∧ sp [.ref a, y] H Q E
theorem ip_own {op : Operator} (hc : PySem.W.selfFirst X.K C = true) (M : OpC X.K C (dunderI op.info.2) f) (F : FnOk X.prog X.w X.K X.mg X.base CX k f fd ps sp) (hr : Room k X.A) (hb : Binds X.K fd ps []) (hx : Passes CX X E) : PIp X op (rIp C sp E) := by
  intro pins s σ H x y v u Q I rx ry h
  obtain ⟨a, dx, fs, rfl, ha, q⟩ := h
  cases rx
  obtain ⟨oa, da, Ja⟩ := inst_of I ha
  obtain ⟨mm, Fm⟩ := I.fr
  have one := run_op F hr hb hx I (.cons (relRef _) (.cons ry .nil)) q
  exact PySem.W.ksp_inplace Fm I.mod.kin Ja hc M.at_ M.fn (wpAny_mono one (fun _ _ z => back_ok z) fun _ _ z => z)
/-- the left operand is of a built-in type that declines, the right one an instance of C -/
theorem binR {prog : Program} {w : World} {A : Around} {E' : Value → Shared → Prop} {s : Shared} {K : PySem.W.Frag} {x C f g L : Addr} {h₀ : Heap} {m : Str → Option Value} {ox : Obj} {od : Option Obj} {T : String} {op : Operator} {b : Value} {fo ro : Option Value} {Q : Value → Shared → Prop}
    (F : Fr h₀ L s.heap m) (X₀ : K.In h₀) (J : PySem.W.InstAt s.heap x ox C od) (hb : typeOf b = pure (.type T)) (hc : PySem.W.selfFirst K C = true)
    (hs : PySem.W.findIn K (.ref C) (PySem.dunder op.info.2) = some (some (.ref f))) (hg : PySem.W.findIn K (.ref C) (dunderR op.info.2) = some (some (.ref g))) (hf : PySem.W.isFn K (.ref g) = true)
    (h1 : PySem.W.findIn K (.type T) (PySem.dunder op.info.2) = some fo) (h2 : PySem.W.findIn K (.type T) (dunderR op.info.2) = some ro) (hl : ((fo.isSome && !isSeqSlot fo) || (ro.isSome && !isSeqSlot ro)) = false)
    (h : wpAny (model prog w) A (call (.ref g) [.ref x, b]) (PySem.W.CmpBack Q) E' s) : wpAny (model prog w) A (binaryOp op b (.ref x)) Q E' s := by
  have Xk := X₀.keeps F.keep
  obtain ⟨cd, rest, hcd, hm⟩ := PySem.W.ksp_first hc
  rcases hi : op.info with ⟨sym, nm'⟩
  rw [hi] at hs hg h1 h2
  dsimp only at hs hg h1 h2
  have one := PySem.W.ksp_try Xk J hg hf h
  obtain ⟨hh, gg, d, tt, os⟩ := s
  have L1 : PySem.W.Looks (model prog w) hh (typeOf b) (.type T) := PySem.W.Looks.of_pure hb
  have L2 : PySem.W.Looks (model prog w) hh (typeOf (.ref x)) (.ref C) := J.type
  have L3 : PySem.W.Looks (model prog w) hh (fillsNumberSlot (.ref C) nm') true := PySem.W.fills_K Xk hcd hm hs
  have L4 : PySem.W.Looks (model prog w) hh (fillsNumberSlot (.type T) nm') false := by
    have z := PySem.W.ksp_fillsT (M := model prog w) Xk h1 h2
    rw [hl] at z
    exact z
  have hne : (Value.type T == Value.ref C) = false := Bool.eq_false_iff.mpr fun q => by cases beq_iff_eq.mp q
  simp only [binaryOp, hi]
  refine wpAny_holding (wpAny_bind ?_)
  unfold binaryOp1
  refine wpAny_bind (L1.at (wpAny_bind (L2.at (wpAny_bind (L4.at ?_)))))
  simp only [hne, Bool.false_eq_true, if_false]
  ksp_lk
  refine wpAny_mono one (fun r s' hr' => ?_) fun _ _ e => e
  obtain ⟨v, rfl, hq⟩ := hr'
  ksp_lk
  exact hq
/-- z op a, z a text, a an instance of C -/
def rBinR (C : Addr) (sp : Sp) (E : XK) : R2 := fun x y H Q => ∃ a dx fs z, x = .str z ∧ y = .ref a ∧ H a = some (.ins C dx fs) ∧ sp [.ref a, .str z] H Q E
theorem op_binR {op : Operator} {g : Addr} {fo ro : Option Value} (hc : PySem.W.selfFirst X.K C = true) (M0 : OpC X.K C (PySem.dunder op.info.2) g) (M : OpC X.K C (dunderR op.info.2) f)
    (h1 : PySem.W.findIn X.K (.type "str") (PySem.dunder op.info.2) = some fo) (h2 : PySem.W.findIn X.K (.type "str") (dunderR op.info.2) = some ro) (hl : ((fo.isSome && !isSeqSlot fo) || (ro.isSome && !isSeqSlot ro)) = false)
    (F : FnOk X.prog X.w X.K X.mg X.base CX k f fd ps sp) (hr : Room k X.A) (hb : Binds X.K fd ps []) (hx : Passes CX X E) : OpR X (binaryOp op) (rBinR C sp E) := by
  intro pins s σ H x y v u Q I rx ry h
  obtain ⟨a, dx, fs, z, rfl, rfl, ha, q⟩ := h
  obtain ⟨t, rfl⟩ := rx
  cases ry
  obtain ⟨oa, da, Ja⟩ := inst_of I ha
  obtain ⟨mm, Fm⟩ := I.fr
  have one := run_op F hr hb hx I (.cons (relRef _) (.cons (relStr z t) .nil)) q
  exact binR Fm I.mod.kin Ja (by rfl) hc M0.at_ M.at_ M.fn h1 h2 hl (wpAny_mono one (fun _ _ z => back_ok z) fun _ _ z => z)
/-- a == b by an own __eq__, b an instance of C too -/
theorem op_eqO (M : OpC X.K C "__eq__" f) (F : FnOk X.prog X.w X.K X.mg X.base CX k f fd ps sp) (hr : Room k X.A) (hb : Binds X.K fd ps []) (hx : Passes CX X E) : OpR X (compareOp .Eq) (rBin C sp E) := by
  intro pins s σ H x y v u Q I rx ry h
  obtain ⟨a, dx, fs, b, dy, gs, rfl, rfl, ha, hb2, q⟩ := h
  cases rx
  cases ry
  obtain ⟨oa, da, Ja⟩ := inst_of I ha
  obtain ⟨ob, db, Jb⟩ := inst_of I hb2
  obtain ⟨mm, Fm⟩ := I.fr
  have one := run_op F hr hb hx I (.cons (relRef _) (.cons (relRef b) .nil)) q
  exact PySem.W.cmp_K (op := .Eq) (Nat.lt_of_succ_lt (hu_of hr)) Fm I.mod.kin Ja Jb.type (by show ((Value.ref C == Value.ref C) || _) = true; rw [beq_self_eq_true]; rfl) M.at_ M.fn (wpAny_mono one (fun _ _ z => back_ok z) fun _ _ z => z)
theorem call_lenO (M : OpC X.K C "__len__" f) (F : FnOk X.prog X.w X.K X.mg X.base CX k f fd ps sp) (hr : Room (k + 1) X.A) (hb : Binds X.K fd ps []) (hx : Passes CX X E) : CallR X (.builtin "len") (rLenO C sp E) := by
  intro pins s σ H xs us Q I r h
  obtain ⟨a, dx, fs, rfl, ha, q⟩ := h
  rw [Vals.ref1 r]
  obtain ⟨oa, da, Ja⟩ := inst_of I ha
  obtain ⟨mm, Fm⟩ := I.fr
  have hl : ([Value.ref a] ++ []).length = ps.length := by
    rw [← F.len _ _ _ _ q]
    rfl
  refine PySem.W.len_K Fm I.mod.kin Ja M.at_ M.fn (wpAny_call (codeAny_mono (F.run X.A.in1 X.stack s H ⟨[.ref a], []⟩ [.ref a] [.ref a] _ E hr.in1 I.env0.in1 (hb _ [.ref a] I.kIn hl) (.cons (relRef _) .nil) q) fun r s' hq => ?_))
  cases r with
  | error er => exact hx pins σ H s er s' I hq
  | ok fl =>
    cases fl with
    | ret u =>
      obtain ⟨v, H', I3, rv, n, rfl, h0, h1, q3⟩ := I.after hq
      obtain ⟨t, rfl⟩ := rv
      exact ⟨⟨h0, h1⟩, .int n, H', I3.tok _, ⟨_, rfl⟩, q3⟩
    | next => exact False.elim hq
    | brk => exact False.elim hq
    | cont => exact False.elim hq
end
end Tl

/-! bool(a) of an own class, bool(text). -/
namespace Tl
open PySem PySem.Spec PyProof.Rows L2
theorem bool_by {prog : Program} {w : World} (v : Value) :
    MeetsIn prog w (Builtin.«bool.__new__» ⟨[.type "bool", v], []⟩) (fun A R s => wpAny (model prog w) A.in1 (truthy v) (fun b s' => R (.ok (.ret (.bool b))) s') (fun e s' => R (.error e) s') s) := by
  intro A R s h
  have f1 := F.conv_sub_bool
  obtain ⟨hp, g, d, tk, os⟩ := s
  unfold Builtin.«bool.__new__»
  generalize hT : truthy = TR at h ⊢
  repeat (any_goals (first | assumption | wp_step))
  all_goals skip
  exact wpAny_mono h (fun b s' q => wpAny_pure q) fun _ _ z => z
theorem call_bool_by {prog : Program} {w : World} {A : Around} {E : Value → Shared → Prop} {s : Shared} {v : Value} {Q : Value → Shared → Prop}
    (h : wpAny (model prog w) A.in1.in1 (truthy v) (fun b s' => Q (.bool b) s') E s) : wpAny (model prog w) A (call (.type "bool") [v]) Q E s :=
  callType_newIn F.called_bool F.newNe_bool (F.typeCall_bool_1 v) (F.newCall_bool_1 v) (fun obj => F.args_object_init_2 obj v) F.entry_bool_new (bool_by v)
    (wpAny_mono h (fun b s' q => ⟨rfl, q⟩) fun _ _ z => z)
section
variable {X : Cx} {CX : CXT} {k : Nat} {C f : Addr} {fd : FuncData} {ps : List Str} {sp : Sp} {E : XK}
/-- bool(a), a an instance of C with an own __bool__ -/
def rBoolO (C : Addr) (sp : Sp) (E : XK) : List V → Hp → VK → Prop := fun xs H Q => ∃ a dx fs, xs = [.ref a] ∧ H a = some (.ins C dx fs) ∧ sp [.ref a] H (fun v H' => ∃ b, v = .bl b ∧ Q (.bl b) H') E
theorem call_boolO (M : OpC X.K C "__bool__" f) (F : FnOk X.prog X.w X.K X.mg X.base CX k f fd ps sp) (hr : Room (k + 2) X.A) (hb : Binds X.K fd ps []) (hx : Passes CX X E) : CallR X (.type "bool") (rBoolO C sp E) := by
  intro pins s σ H xs us Q I r h
  obtain ⟨a, dx, fs, rfl, ha, q⟩ := h
  rw [Vals.ref1 r]
  obtain ⟨oa, da, Ja⟩ := inst_of I ha
  obtain ⟨mm, Fm⟩ := I.fr
  have hl : ([Value.ref a] ++ []).length = ps.length := by
    rw [← F.len _ _ _ _ q]
    rfl
  refine call_bool_by (PySem.W.truthy_K Fm I.mod.kin Ja M.at_ M.fn (wpAny_call (codeAny_mono (F.run X.A.in1.in1 X.stack s H ⟨[.ref a], []⟩ [.ref a] [.ref a] _ E hr.in1.in1 I.env0.in1.in1 (hb _ [.ref a] I.kIn hl) (.cons (relRef _) .nil) q) fun r s' hq => ?_)))
  cases r with
  | error er => exact hx pins σ H s er s' I hq
  | ok fl =>
    cases fl with
    | ret u =>
      obtain ⟨v, H', I3, rv, b, rfl, q3⟩ := I.after hq
      cases rv
      exact ⟨.bl b, H', I3, rfl, q3⟩
    | next => exact False.elim hq
    | brk => exact False.elim hq
    | cont => exact False.elim hq
/-- bool(z) of a text -/
theorem call_boolTx : CallR X (.type "bool") (fun xs H Q => ∃ l : List Nat, xs = [.str (tx l)] ∧ l.length ≤ 16777216 ∧ Q (.bl (!l.isEmpty)) H) := by
  intro pins s σ H xs us Q I r h
  obtain ⟨l, rfl, hl, q⟩ := h
  obtain ⟨u, rfl, t, rfl⟩ := vals1 r
  have e : (((tx l).length : Int) != 0) = !l.isEmpty := by
    rw [len_tx]
    cases l with
    | nil => rfl
    | cons x l2 =>
      rw [List.length_cons]
      show ((((l2.length + 1 : Nat) : Int) != 0)) = true
      rw [bne_iff_ne]
      omega
  refine call_bool_str (by rw [len_tx]; omega) ⟨.bl (!l.isEmpty), H, I.tok _, by rw [e]; rfl, q⟩
end
end Tl

/-! Comprehensions over the signs of a text. -/
namespace Tl
open PySem PySem.Spec PyProof.Rows L2
theorem upd_over {H : Hp} {p : Addr} {o u : HO} : upd (upd H p o) p u = upd H p u := funext fun x => by
  by_cases e : x = p
  · subst e
    rw [upd_same, upd_same]
  · rw [upd_ne e, upd_ne e, upd_ne e]
/-- [f c for c in text if p c]: i the slot of c, f and p told by the sign's code, the heap as it was -/
theorem lc_tx {te te' : TE} {tt : TT} {σ : L2.St} {H : Hp} {Q : VK} {l : List Nat} {p : Nat → Bool} {f : Nat → V} {i : Nat} (hl : l.length ≤ 1000000)
    (hte : ∀ Q' : VK, Q' (.str (tx l)) H → te σ H Q')
    (hw : ∀ x : V, wipe ((wipe σ [i]).set i (some x)) [i] = wipe σ [i])
    (ht : ∀ (n : Nat) (H2 : Hp) (Qb : Bool → Hp → Prop), n ∈ l → Qb (p n) H2 → tt ((wipe σ [i]).set i (some (.str (sg n)))) H2 Qb)
    (he : ∀ (n : Nat) (H2 : Hp) (Q' : VK), n ∈ l → Q' (f n) H2 → te' ((wipe σ [i]).set i (some (.str (sg n)))) H2 Q')
    (hq : ∀ D, H D = none → Q (.ref D) (upd H D (.lst ((l.filter p).map f)))) : tLc (iStr te) (gName i) tt te' [i] σ H Q := by
  refine hte _ ⟨tx l, rfl, fun D hD => ?_⟩
  refine lc_it (walk_str (z := tx l)) (fun j H' => H' = upd H D (.lst (((l.take j).filter p).map f))) rfl (fun _ _ _ _ => trivial) ?_ ?_
  · rintro j x H1 H' hj e1 ⟨e2, c, hc, rfl⟩
    subst e2
    subst e1
    have hc' : l[j]? = some c := by
      have e : (tx l).cps[j]? = l[j]? := by simp [tx]
      rw [← e]
      exact hc
    have hm : c ∈ l := List.mem_of_getElem? hc'
    have hlen : ((l.take j).filter p).length ≤ 1000000 := Nat.le_trans (List.length_filter_le _ _) (Nat.le_trans (by rw [List.length_take]; exact Nat.min_le_right _ _) hl)
    refine ⟨hw _, ht c _ _ hm ?_⟩
    cases hp : p c with
    | true =>
      refine iteT (he c _ _ hm ⟨_, upd_same, ?_, ?_⟩)
      · rw [List.length_map]
        exact Nat.lt_of_le_of_lt hlen (by rw [sizeLine_eq]; decide)
      · show upd (upd H D _) D _ = _
        rw [upd_over, List.take_add_one, hc', List.filter_append, List.map_append]
        simp [hp]
    | false =>
      refine iteF ?_
      show upd H D _ = upd H D _
      rw [List.take_add_one, hc', List.filter_append]
      simp [hp]
  · rintro H' rfl
    have e : l.take (tx l).cps.size = l := List.take_of_length_le (by simp [tx])
    rw [e]
    exact hq D hD
theorem cb_one {r : List V → Hp → VK → Prop} {ta : TE} {σ : L2.St} {H : Hp} {Q : VK} (h : ta σ H fun x H1 => r [x] H1 Q) : tCB r (tCons ta tNil) σ H Q := h
/-- what sep.join(xs) asks -/
abbrev rJoin (K : PySem.W.Frag) : V → List V → Hp → VK → Prop := fun x xs H Q => ∃ a p, ∃ ys : List Str, x = .str a ∧ xs = [.ref p] ∧ (SqL K H p (ys.map V.str) ∨ SqT K H p (ys.map V.str)) ∧ (ys.map (·.length)).sum + ys.length * a.length ≤ 16777216 ∧ Q (.str (Txt.join a ys)) H
theorem strs_sg (l : List Nat) : (l.map fun n => V.str (sg n)) = (l.map sg).map V.str := by
  rw [List.map_map]
  rfl
theorem join_rd {K : PySem.W.Frag} {p : Addr} {l : List Nat} {H : Hp} {Q : VK} (h : H p = some (.lst (l.map fun n => V.str (sg n)))) (hl : l.length ≤ 1000000) (q : Q (.str (tx l)) H) : rJoin K (.str (tx [])) [.ref p] H Q := by
  refine ⟨tx [], p, l.map sg, rfl, rfl, .inl (SqL.of (by rw [← strs_sg]; exact h)), ?_, ?_⟩
  · rw [sum_sg, len_tx, List.length_map]
    show l.length + l.length * 0 ≤ 16777216
    omega
  · rw [join_sg]
    exact q
/-- ''.join([c for c in text if p c]) -/
theorem join_tx {K : PySem.W.Frag} {z : Str} {te : TE} {tt : TT} {σ : L2.St} {H : Hp} {Q : VK} {l : List Nat} {p : Nat → Bool} {i : Nat} (hz : z = tx []) (hl : l.length ≤ 1000000)
    (hte : ∀ Q' : VK, Q' (.str (tx l)) H → te σ H Q')
    (hw : ∀ x : V, wipe ((wipe σ [i]).set i (some x)) [i] = wipe σ [i])
    (hv : ∀ x : V, ((wipe σ [i]).set i (some x))[i]? = some (some x))
    (ht : ∀ (n : Nat) (H2 : Hp) (Qb : Bool → Hp → Prop), n ∈ l → Qb (p n) H2 → tt ((wipe σ [i]).set i (some (.str (sg n)))) H2 Qb)
    (hq : ∀ H', Same H H' → Q (.str (tx (l.filter p))) H') : tM1 (rJoin K) (tC (.str z)) (tLc (iStr te) (gName i) tt (tVar i) [i]) σ H Q := by
  subst hz
  refine ⟨⟨_, rfl⟩, ?_⟩
  refine lc_tx (p := p) (f := fun n => .str (sg n)) hl hte hw ht (fun n H2 Q' _ q => ⟨_, hv _, q⟩) fun D hD => ?_
  refine join_rd upd_same (Nat.le_trans (List.length_filter_le _ _) hl) (hq _ fun b o e => ?_)
  rw [upd_ne (ne_of_none e hD)]
  exact e
/-- the same, the text made by a call that leaves all as it stood -/
theorem join_txG {K : PySem.W.Frag} {z : Str} {te : TE} {tt : TT} {σ : L2.St} {H : Hp} {Q : VK} {l : List Nat} {p : Nat → Bool} {i : Nat} (hz : z = tx []) (hl : l.length ≤ 1000000)
    (hte : ∀ Q' : VK, (∀ H1, Same H H1 → Q' (.str (tx l)) H1) → te σ H Q')
    (hw : ∀ x : V, wipe ((wipe σ [i]).set i (some x)) [i] = wipe σ [i])
    (hv : ∀ x : V, ((wipe σ [i]).set i (some x))[i]? = some (some x))
    (ht : ∀ (n : Nat) (H2 : Hp) (Qb : Bool → Hp → Prop), n ∈ l → Qb (p n) H2 → tt ((wipe σ [i]).set i (some (.str (sg n)))) H2 Qb)
    (hq : ∀ H', Same H H' → Q (.str (tx (l.filter p))) H') : tM1 (rJoin K) (tC (.str z)) (tLc (iStr te) (gName i) tt (tVar i) [i]) σ H Q := by
  subst hz
  refine ⟨⟨_, rfl⟩, hte _ fun H1 s1 => ?_⟩
  refine lc_tx (Q := fun y H2 => rJoin K (V.str (tx [])) [y] H2 Q) (te := tC (.str (tx l))) (te' := tVar i) (H := H1) (p := p) (f := fun n => .str (sg n)) hl (fun _ q => q) hw ht (fun n H2 Q' _ q => ⟨_, hv _, q⟩) fun D hD => ?_
  refine join_rd upd_same (Nat.le_trans (List.length_filter_le _ _) hl) (hq _ fun b o e => ?_)
  rw [upd_ne (ne_of_none (s1 _ _ e) hD)]
  exact s1 _ _ e
end Tl

/-! Sets of texts: set(xs) of a list of texts, sorted(set of texts). -/
namespace Tl
open PySem PySem.Spec PyProof.Rows L2
abbrev kindS (P : Program) (w : World) := PySem.strKind P w
/-- the text of an entry -/
def txOf (r : Int × Value) : Str := match r.2 with | .str z _ => z | _ => Str.empty
def TxRow (w : World) (r : Int × Value) : Prop := ∃ z u, r.2 = Value.str z u ∧ r.1 = hashStr w z
/-- the table of a set of texts: its rows, filled by rising places -/
structure TxTab (w : World) (M : Str → Bool) (c : Nat) (rows : Array (Int × Value)) (tb : SetTable) : Prop where
  row : ∀ r ∈ rows.toList, TxRow w r
  one : (rows.toList.map txOf).Nodup
  mem : ∀ z, M z = true ↔ z ∈ rows.toList.map txOf
  few : rows.size < scanBound
  fit : tb.fits rows.size = true
  num : rows.size = c
  ris : Ris tb.place.toList
  led : w.params.followText "set-order" = true ∨ tb.led = true
def TxSet (w : World) (hp : Heap) (b : Addr) (M : Str → Bool) (c : Nat) : Prop :=
  ∃ ob rows eph tb, hp.get? b = some ob ∧ ob.ExactSet ∧ ob.data = .set rows eph tb ∧ TxTab w M c rows tb
section
variable {P : Program} {w : World} {hp hp' : Heap} {b : Addr} {M : Str → Bool} {c : Nat}
theorem TxSet.at (T : TxSet w hp b M c) (k : ∀ u, hp.get? b = some u → hp'.get? b = some u) : TxSet w hp' b M c := by
  obtain ⟨ob, rows, eph, tb, h1, h2⟩ := T
  exact ⟨ob, rows, eph, tb, k ob h1, h2⟩
theorem TxSet.lt (T : TxSet w hp b M c) : b < hp.objs.size := by
  obtain ⟨ob, _, _, _, h1, _⟩ := T
  exact Heap.lt_size h1
theorem row_elems {l : List (Int × Value)} (g : ∀ r ∈ l, TxRow w r) : ElemsOf (kindS P w) l := fun r hr => by
  obtain ⟨z, u, e1, e2⟩ := g r hr
  refine ⟨⟨z, ?_, e2⟩, ?_⟩
  · rw [e1]
    exact strKind_is P w z u
  · rw [e1] <;> rfl
theorem row_is {r : Int × Value} (g : TxRow w r) (z : Str) : (kindS P w).is z r.2 = true ↔ txOf r = z := by
  obtain ⟨y, u, e1, _⟩ := g
  unfold txOf
  rw [e1]
  constructor
  · intro q
    obtain ⟨t, q2⟩ := Value.isStrOf_shape (show Value.isStrOf z (.str y u) = true from q)
    injection q2 with q3
  · intro q
    rw [show y = z from q]
    exact strKind_is P w z u
theorem row_mem {l : List (Int × Value)} (g : ∀ r ∈ l, TxRow w r) (z : Str) : z ∈ l.map txOf ↔ ∃ r ∈ l, (kindS P w).is z r.2 = true := by
  rw [List.mem_map]
  exact ⟨fun ⟨r, hr, q⟩ => ⟨r, hr, (row_is (g r hr) z).2 q⟩, fun ⟨r, hr, q⟩ => ⟨r, hr, (row_is (g r hr) z).1 q⟩⟩
theorem TxSet.setOf (T : TxSet w hp b M c) : hp.SetOf (kindS P w) b M c := by
  obtain ⟨ob, rows, eph, tb, h1, h2, h3, G⟩ := T
  exact ⟨ob, rows, eph, tb, h1, h2, h3, row_elems G.row, fun z => (G.mem z).trans (row_mem G.row z), G.few, G.fit, G.num⟩
end
section
variable {P : Program} {w : World} {A : Around} {E : Value → Shared → Prop} {s : Shared} {b : Addr} {M : Str → Bool} {c : Nat}
theorem tx_tail {gv : Bool → Sem Unit} (hgv : ∀ (q : Bool) (s1 : Shared) (Q1 : Unit → Shared → Prop), Q1 () s1 → wpAny (model P w) A (gv q) Q1 E s1)
    {ob : Obj} {rows : Array (Int × Value)} {eph : Nat} {tb : SetTable} (hob : s.heap.get? b = some ob) (hex : ob.ExactSet) (hdt : ob.data = .set rows eph tb)
    {rows1 : Array (Int × Value)} {tb1 : SetTable} {M' : Str → Bool} {c' : Nat} (G : TxTab w M' c' rows1 tb1) {dum : Bool} {R : Option Bool → Shared → Prop}
    (hR : ∀ hq, Heap.SameBut b s.heap hq → TxSet w hq b M' c' → R (some true) { s with heap := hq }) :
    wpAny (model P w) A (do
        storeSet b rows1 tb1
        if (!dum && tb1.tooFull) = true then do
            gv (relayAll tb1 rows1 (SetTable.grown rows1.size)).2.2
            storeSet b (relayAll tb1 rows1 (SetTable.grown rows1.size)).1 (relayAll tb1 rows1 (SetTable.grown rows1.size)).2.1
            pure (some true)
          else pure (some true)) R E s := by
  have ho1 := L2.store_at (es' := rows1) (t' := tb1) hob hdt
  have sb1 := Heap.SameBut.update s.heap b (Obj.putSet rows1 tb1)
  refine wpAny_bind (wpAny_storeSet_of hob hdt ?_ (fits_of_scanBound G.few))
  split
  · have pm := relayAll_perm tb1 rows1 (SetTable.grown rows1.size)
    have hf3 := relayAll_fits tb1 rows1 (SetTable.grown rows1.size)
    have hr3 := relayAll_ris tb1 rows1 (SetTable.grown rows1.size)
    have hl3 := relayAll_led tb1 rows1 (SetTable.grown rows1.size)
    generalize relayAll tb1 rows1 (SetTable.grown rows1.size) = Z at pm hf3 hr3 hl3 ⊢
    obtain ⟨rows2, tb2, gave⟩ := Z
    dsimp only at pm hf3 hr3 hl3 ⊢
    have hsz : rows2.size = rows1.size := by
      rw [← Array.length_toList, pm.length_eq, Array.length_toList]
    have few2 : rows2.size < scanBound := by
      rw [hsz]
      exact G.few
    refine wpAny_bind (hgv _ _ _ (wpAny_bind (wpAny_storeSet_of ho1 rfl ?_ (fits_of_scanBound few2))))
    have ho2 := L2.store_at (es' := rows2) (t' := tb2) ho1 rfl
    have pk := pm.map txOf
    refine wpAny_pure (hR _ (sb1.trans (Heap.SameBut.update _ b _)) ⟨_, rows2, _, tb2, ho2, hex, rfl, ?_⟩)
    exact { row := fun r hr => G.row r (pm.mem_iff.mp hr), one := pk.nodup_iff.mpr G.one, mem := fun z => (G.mem z).trans pk.mem_iff.symm, few := few2, fit := hf3, num := hsz.trans G.num, ris := hr3, led := G.led.imp id fun z => hl3.trans z }
  · exact wpAny_pure (hR _ sb1 ⟨_, rows1, _, tb1, ho1, hex, rfl, G⟩)
theorem tx_add {z : Str} {u : Tok} {Q : Bool → Shared → Prop} (T : TxSet w s.heap b M c) (room : c + 1 < scanBound)
    (hQ : ∀ hq, Heap.SameBut b s.heap hq → TxSet w hq b (fun y => M y || decide (y = z)) (if M z = true then c else c + 1) → Q (!M z) { s with heap := hq }) :
    wpAny (model P w) A (setAddHashed b (.str z u) (hashStr w z)) Q E s := by
  obtain ⟨ob, rows, eph, tb, hob, hex, hdt, G⟩ := T
  have hkey : (kindS P w).is z (.str z u) = true := strKind_is P w z u
  have hsc : (Value.str z u).scannable = true := rfl
  have hel : ElemsOf (kindS P w) rows.toList := row_elems G.row
  unfold setAddHashed setAddHashedIn
  refine wpAny_holding (wpAny_bind (wpAny_setState_of hob hdt G.fit ?_))
  dsimp only
  rw [byScan_of hsc G.few hel]
  simp only [↓reduceIte]
  unfold setAddByScan
  refine wpAny_bind (wpAny_bind (wpAny_rule (wpAny_bind (wpAny_setScan_of hkey hob hdt G.fit hel ?_))))
  cases hfi : List.findIdx? (fun r => (kindS P w).is z r.2) rows.toList with
  | some j =>
    dsimp only
    obtain ⟨hj, pj, _⟩ := List.findIdx?_eq_some_iff_getElem.mp hfi
    have hM : M z = true := (G.mem z).2 ((row_mem (P := P) G.row z).2 ⟨rows.toList[j], List.getElem_mem hj, pj⟩)
    have q := hQ s.heap (Heap.SameBut.refl b s.heap) ⟨ob, rows, eph, tb, hob, hex, hdt, { G with
      mem := fun i => by
        rw [Bool.or_eq_true, decide_eq_true_eq, ← G.mem i]
        exact ⟨fun y => y.elim id fun e => e ▸ hM, .inl⟩
      num := by
        rw [if_pos hM]
        exact G.num }⟩
    rw [hM] at q
    exact wpAny_pure (wpAny_pure q)
  | none =>
    dsimp only
    have hno : z ∉ rows.toList.map txOf := fun y => by
      obtain ⟨r, hr, q⟩ := (row_mem (P := P) G.row z).1 y
      have e := List.findIdx?_eq_none_iff.mp hfi r hr
      rw [q] at e
      cases e
    have hM : M z = false := by
      cases q : M z with
      | false => rfl
      | true => exact absurd ((G.mem z).1 q) hno
    have hgw : ∀ (q : Bool) {s1 : Shared} {Q1 : Unit → Shared → Prop}, Q1 () s1 → wpAny (model P w) A (match q with | true => rule "set.scan.the-table-gave-way" | false => pure ()) Q1 E s1 := by
      intro q s1 Q1 hq
      cases q
      · exact wpAny_pure hq
      · exact wpAny_rule hq
    have pm := layNew_perm tb rows (hashStr w z) (.str z u)
    have hf1 := layNew_fits tb rows (hashStr w z) (.str z u)
    have hr1 := layNew_ris tb rows (hashStr w z) (.str z u) G.ris
    have hl1 := layNew_led tb rows (hashStr w z) (.str z u)
    generalize layNew tb rows (hashStr w z) (.str z u) = Z at pm hf1 hr1 hl1 ⊢
    obtain ⟨rows1, tb1, dum, gave⟩ := Z
    dsimp only at pm hf1 hr1 hl1 ⊢
    rw [Array.toList_push] at pm
    have pc : rows1.toList.Perm ((hashStr w z, Value.str z u) :: rows.toList) := pm.trans (List.perm_append_singleton _ _)
    have pk : (rows1.toList.map txOf).Perm (z :: rows.toList.map txOf) := pc.map txOf
    have hsz : rows1.size = c + 1 := by
      rw [← Array.length_toList, pc.length_eq, List.length_cons, Array.length_toList, G.num]
    have G1 : ∀ tb2 : SetTable, tb2.fits rows1.size = true → Ris tb2.place.toList → tb2.led = tb1.led → TxTab w (fun y => M y || decide (y = z)) (c + 1) rows1 tb2 := fun tb2 y1 y2 y3 =>
      { row := fun r hr => by
          rcases List.mem_cons.mp (pc.mem_iff.mp hr) with e | e
          · exact ⟨z, u, by rw [e], by rw [e]⟩
          · exact G.row r e
        one := pk.nodup_iff.mpr (List.nodup_cons.mpr ⟨hno, G.one⟩)
        mem := fun i => by
          rw [Bool.or_eq_true, decide_eq_true_eq, G.mem i, pk.mem_iff, List.mem_cons]
          exact Or.comm
        few := by
          rw [hsz]
          exact room
        fit := y1
        num := hsz
        ris := y2
        led := G.led.imp id fun y => by
          rw [y3, hl1]
          exact y }
    have fin : ∀ hq, Heap.SameBut b s.heap hq → TxSet w hq b (fun y => M y || decide (y = z)) (c + 1) → Q true { s with heap := hq } := fun hq sb T1 => by
      have q := hQ hq sb
      rw [hM] at q
      exact q T1
    refine wpAny_bind (hgw _ ?_)
    split
    · refine wpAny_bind ?_
      rw [hashByValue_scannable 8 hsc]
      refine wpAny_pure ?_
      refine tx_tail ?_ hob hex hdt (G1 _ ?_ ?_ ?_) ?_
      · intro q s1 Q1 hq
        cases q
        · exact wpAny_pure hq
        · exact wpAny_rule hq
      · first | (split <;> first | exact hf1 | exact SetTable.fits_plain_off hf1) | exact hf1
      · first | (split <;> exact hr1) | exact hr1
      · first | (split <;> rfl) | rfl
      · intro hq sb T1
        dsimp only
        exact wpAny_pure (fin hq sb T1)
    · refine wpAny_bind (wpAny_pure ?_)
      simp only [↓reduceIte]
      refine tx_tail ?_ hob hex hdt (G1 _ hf1 hr1 rfl) ?_
      · intro q s1 Q1 hq
        cases q
        · exact wpAny_pure hq
        · exact wpAny_rule hq
      · intro hq sb T1
        dsimp only
        exact wpAny_pure (fin hq sb T1)
theorem led_fresh (w : World) : w.params.followText "set-order" = true ∨ (SetTable.fresh 0 0 (!w.params.followText "set-order")).led = true := by
  show _ ∨ (!w.params.followText "set-order") = true
  cases w.params.followText "set-order"
  · exact .inr rfl
  · exact .inl rfl
theorem tx_fresh {hp : Heap} (w : World) : TxSet w (hp.push { cls := .type "set", dict := none, data := .set #[] 0 (.fresh 0 0 (!w.params.followText "set-order")) }) hp.objs.size (fun _ => false) 0 :=
  ⟨_, #[], 0, _, Heap.get?_push_size _ rfl, ⟨rfl, rfl, rfl⟩, rfl, { row := fun r hr => by simp at hr, one := by simp, mem := fun z => by simp, few := by decide, fit := by rfl, num := rfl, ris := List.Pairwise.nil, led := led_fresh w }⟩
end
end Tl

namespace Tl
open PySem PySem.Spec PyProof.Rows L2
/-- how many different ones among the first i -/
def firsts (val : Nat → Str) : Nat → List Str
  | 0 => []
  | i + 1 => if (firsts val i).contains (val i) then firsts val i else firsts val i ++ [val i]
def hasS (l : List Str) (z : Str) : Bool := l.contains z
theorem firsts_len (val : Nat → Str) : ∀ i, (firsts val i).length ≤ i
  | 0 => Nat.le_refl _
  | i + 1 => by
    have q := firsts_len val i
    unfold firsts
    split
    · omega
    · rw [List.length_append, List.length_singleton]
      omega
theorem firsts_mem (val : Nat → Str) : ∀ (i : Nat) (z : Str), z ∈ firsts val i ↔ ∃ j, j < i ∧ val j = z
  | 0, z => by simp [firsts]
  | i + 1, z => by
    have q := firsts_mem val i z
    unfold firsts
    split
    · rename_i h
      rw [q]
      constructor
      · rintro ⟨j, hj, e⟩
        exact ⟨j, by omega, e⟩
      · rintro ⟨j, hj, e⟩
        by_cases hji : j = i
        · subst hji
          subst e
          exact (firsts_mem val j _).1 (List.contains_iff_mem.mp h)
        · exact ⟨j, by omega, e⟩
    · rw [List.mem_append, q, List.mem_singleton]
      constructor
      · rintro (⟨j, hj, e⟩ | e)
        · exact ⟨j, by omega, e⟩
        · exact ⟨i, by omega, e.symm⟩
      · rintro ⟨j, hj, e⟩
        by_cases hji : j = i
        · subst hji
          exact .inr e.symm
        · exact .inl ⟨j, by omega, e⟩
section
variable {prog : Program} {w : World} {A : Around} {R : Result → Shared → Prop} {I : Addr} {fp wr : List Addr} {G : Array GenState → Array GenState → Prop} {n : Nat} {Pv : Nat → Value → Prop} {Sv : Nat → Shared → Prop}
theorem tx_loop (W : WalksS prog w A.in1 I fp wr G n Pv Sv) (b : Addr) (hbf : b ∉ fp) (val : Nat → Str) (hval : ∀ i v, Pv i v → ∃ u, v = .str (val i) u) (room : n + 1 < scanBound) :
    ∀ (d i : Nat) (s : Shared), n - i = d → i ≤ n → Sv i s → TxSet w s.heap b (hasS (firsts val i)) (firsts val i).length →
      (∀ s', Moved (b :: wr) G s s' → TxSet w s'.heap b (hasS (firsts val n)) (firsts val n).length → R (.ok (.ret .none)) s') →
      codeAny (model prog w) A (.builtin "set.update.loop" ⟨[.ref b, .ref I], []⟩) R s := by
  have hbw : b ∉ wr := fun h => hbf (W.sub _ h)
  have up : ∀ x ∈ wr, x ∈ b :: wr := fun x hx => List.mem_cons_of_mem _ hx
  intro d
  induction d with
  | zero =>
    intro i s hd hi hst T hR
    obtain rfl : i = n := by omega
    refine codeAny_builtin PyProof.Rows.F.entry_set_update_loop ?_
    rw [Around.under_plainId PyProof.Rows.F.plain_set_update_loop _]
    show wpAny _ A.in1 (pyNext (.ref I) >>= _) _ _ s
    refine wpAny_bind (W.done s _ _ hst fun s' hm => ?_)
    show wpAny _ A.in1 (ret Value.none) _ _ s'
    exact wpAny_pure (hR s' (hm.mono up) (T.at fun u e => hm.heap b u hbw e))
  | succ d ih =>
    intro i s hd hi hst T hR
    have hlt : i < n := by omega
    refine codeAny_builtin PyProof.Rows.F.entry_set_update_loop ?_
    rw [Around.under_plainId PyProof.Rows.F.plain_set_update_loop _]
    show wpAny _ A.in1 (pyNext (.ref I) >>= _) _ _ s
    refine wpAny_bind (W.item i s _ _ hlt hst fun v s' hP hst' hm => ?_)
    obtain ⟨u, rfl⟩ := hval i v hP
    have T' : TxSet w s'.heap b (hasS (firsts val i)) (firsts val i).length := T.at fun x e => hm.heap b x hbw e
    show wpAny _ A.in1 (holding [Value.str (val i) u] (setAdd b (.str (val i) u)) >>= _) _ _ s'
    refine wpAny_bind (wpAny_holding ?_)
    unfold setAdd
    refine wpAny_holding (wpAny_bind ((PySem.strKind prog w).pyHash (k := val i) (strKind_is _ _ _ _) ?_))
    have hl := firsts_len val i
    refine tx_add (s := { s' with toks := s'.toks + 1 }) T' (by omega) fun hq sb T2 => ?_
    have T3 : TxSet w hq b (hasS (firsts val (i + 1))) (firsts val (i + 1)).length := by
      have e1 : (fun y => hasS (firsts val i) y || decide (y = val i)) = hasS (firsts val (i + 1)) := funext fun y => by
        show ((firsts val i).contains y || decide (y = val i)) = (firsts val (i + 1)).contains y
        rw [Bool.eq_iff_iff, Bool.or_eq_true, decide_eq_true_eq, List.contains_iff_mem, List.contains_iff_mem, firsts_mem, firsts_mem]
        constructor
        · rintro (⟨j, hj, e⟩ | e)
          · exact ⟨j, by omega, e⟩
          · exact ⟨i, by omega, e.symm⟩
        · rintro ⟨j, hj, e⟩
          by_cases hji : j = i
          · subst hji
            exact .inr e.symm
          · exact .inl ⟨j, by omega, e⟩
      have e2 : (if hasS (firsts val i) (val i) = true then (firsts val i).length else (firsts val i).length + 1) = (firsts val (i + 1)).length := by
        show _ = (if (firsts val i).contains (val i) then firsts val i else firsts val i ++ [val i]).length
        unfold hasS
        split
        · rfl
        · rw [List.length_append, List.length_singleton]
      rw [← e1, ← e2]
      exact T2
    refine wpAny_pure ⟨plainId_quiet PyProof.Rows.F.plain_set_update_loop _, ih (i + 1) _ (by omega) hlt (W.frame _ s' _ _ hst' (Nat.le_succ _) fun x hx ob e => ?_) T3 fun s2 hm2 T4 => ?_⟩
    · rw [sb.2 x fun y : x = b => hbf (y ▸ hx)]
      exact e
    · refine hR s2 (Moved.trans W.gtrans ((hm.mono up).then_heap (Nat.le_succ _) fun x ob hx e => ?_) hm2) T4
      rw [sb.2 x fun y : x = b => hx (y ▸ List.mem_cons_self)]
      exact e
end
abbrev freshSet (w : World) : Obj := { cls := .type "set", dict := none, data := .set #[] 0 (.fresh 0 0 (!w.params.followText "set-order")) }
section
variable {P : Program} {w : World} {A : Around} {E : Value → Shared → Prop} {s : Shared}
theorem code_new1 (x : Value) {Q1 : Value → Shared → Prop} (h : Q1 (.ref s.heap.objs.size) { s with heap := s.heap.push (freshSet w) }) :
    codeAny (model P w) A (.call (.builtin "set.__new__") ⟨[.type "set", x], []⟩) (wants Q1 E) s := by
  refine codeAny_of_tree ?_
  show wpAny _ A.in1 (do checkBuiltinCall "set.__new__" ⟨[.type "set", x], []⟩; again (.builtin "set.__new__" ⟨[.type "set", x], []⟩)) _ _ s
  refine wpAny_bind (wpAny_of_eq (PySem.F.newCall_set_1 x) (wpAny_pure ⟨plainId_quiet F.plain_set_new _, codeAny_builtin F.entry_set_new ?_⟩))
  rw [Around.under_plainId F.plain_set_new _]
  unfold Builtin.«set.__new__» Builtin.Frozenset.newClass
  have hsub := sub_set_self
  obtain ⟨hp, gn, dr, tk, os⟩ := s
  dsimp only
  wp_walk
  refine wpAny_askSetting (wpAny_pure ?_)
  dsimp only
  simp only [newObj]
  exact wpAny_bind (wpAny_alloc (wpAny_pure (wpAny_pure h)))
set_option maxHeartbeats 8000000 in
theorem set_of_list {l : Addr} {items : Array Value} {xs : List Str} {Q : Value → Shared → Prop} (hh : A.handled = none) (hl : s.heap.IsList l items) (hi : StrsAre items.toList xs) (room : xs.length + 1 < scanBound)
    (h : ∀ (hq : Heap) (tk : Nat), TxSet w hq s.heap.objs.size (hasS (firsts (fun i => xs.getD i Str.empty) xs.length)) (firsts (fun i => xs.getD i Str.empty) xs.length).length →
      (∀ x ob, x < s.heap.objs.size → s.heap.get? x = some ob → hq.get? x = some ob) → Q (.ref s.heap.objs.size) { s with heap := hq, toks := tk }) :
    wpAny (model P w) A (call (.type "set") [.ref l]) Q E s := by
  have hsz : xs.length = items.size := by
    rw [← StrsAre.len_eq hi, Array.length_toList]
  obtain ⟨cc, tl, hmro⟩ := PySem.F.called_set.mro
  have hmade := PySem.F.called_set.made
  have hsub := PySem.F.called_set.sub
  refine wpAny_call (codeAny_of_tree ?_)
  show wpAny _ _ (callAny (.type "set") _) _ _ _
  refine wpAny_pure ⟨Code.quiet_builtin _ (by decide +kernel), codeAny_builtin PySem.F.entry_type_call ?_⟩
  rw [Around.under_plain (weight_type_call_type "set" [.ref l] []) rfl]
  have h1 := PySem.F.called_set.notType
  have h2 := PySem.F.called_set.canCreate
  have hct := PySem.F.typeCall_set_1 (.ref l)
  repeat (any_goals (first | assumption | wp_step))
  refine codeAny_mono (code_new1 (.ref l) (E := E) (Q1 := fun ob s1 => ob = .ref s.heap.objs.size ∧ s1 = { s with heap := s.heap.push (freshSet w) }) ⟨rfl, rfl⟩) fun r s1 hr => ?_
  cases r with
  | error e => exact hr
  | ok fl =>
    cases fl with
    | ret ob =>
      obtain ⟨rfl, rfl⟩ := hr
      have hS : (s.heap.push (freshSet w)).get? s.heap.objs.size = some (freshSet w) := Heap.get?_push_size _ rfl
      have hT : Shared.TypeIs { s with heap := s.heap.push (freshSet w) } (.ref s.heap.objs.size) "set" := ⟨_, hS, rfl⟩
      have hli := PySem.F.called_set.init.lookup
      have hbi := PySem.F.called_set.init.bind (.ref s.heap.objs.size)
      repeat (any_goals (first | assumption | wp_step))
      refine codeAny_mono (codeAny_call_builtin (R := wants (fun r s2 => r = .none ∧ ∃ hq tk, s2 = { s with heap := hq, toks := tk } ∧
          TxSet w hq s.heap.objs.size (hasS (firsts (fun i => xs.getD i Str.empty) xs.length)) (firsts (fun i => xs.getD i Str.empty) xs.length).length ∧
          (∀ x ob, x < s.heap.objs.size → s.heap.get? x = some ob → hq.get? x = some ob)) E) PySem.F.called_set.init.plain PySem.F.entry_set_init (check_set_init_1 hT ?_)) fun r2 s2 hr2 => ?_
      · obtain ⟨ol, hol, hcl, nl, hdl⟩ := hl
        obtain ⟨ocls, odict, odata, oslots⟩ := ol
        simp only at hcl hdl
        subst hcl; subst hdl
        have hol' : (s.heap.push (freshSet w)).get? l = some { cls := .type "list", dict := odict, data := .seq items nl, slots := oslots } := Heap.get?_push_of_some _ hol
        have hsls := PySem.F.sub_list_set
        have hslf := PySem.F.sub_list_frozenset
        have hne : (Value.type "list" == Value.type "dict") = false := by decide
        have hl1 : (s.heap.push (freshSet w)).IsList l items := ⟨_, hol', rfl, nl, rfl⟩
        unfold Builtin.«set.__init__» noKeywords Builtin.Frozenset.updateFrom
        generalize hPI : pyIter = PI
        wp_walk
        subst hPI
        refine wpAny_pyIter_list hl1 (wpAny_bind (wpAny_runValue ?_))
        have hlS : l < s.heap.objs.size := Heap.lt_size hol
        have hh3 : A.in1.in1.in1.handled = none := by simp [hh]
        have z1 : (s.heap.push (freshSet w)).objs.size = s.heap.objs.size + 1 := Heap.size_push _ _
        have hneI : l ≠ (s.heap.push (freshSet w)).objs.size := by
          rw [z1]
          exact Nat.ne_of_lt (Nat.lt_succ_of_lt hlS)
        have hbf : s.heap.objs.size ∉ [(s.heap.push (freshSet w)).objs.size, l] := fun y => by
          rcases List.mem_cons.mp y with e | e
          · exact absurd (e.trans z1) (Nat.ne_of_lt (Nat.lt_succ_self _))
          · exact absurd (List.mem_singleton.mp e).symm (Nat.ne_of_lt hlS)
        have hval : ∀ (i : Nat) (v : Value), items[i]? = some v → ∃ u, v = .str ((fun i => xs.getD i Str.empty) i) u := fun i v hv => SS.strs_at hi i v (by rw [Array.getElem?_toList]; exact hv)
        refine tx_loop ((Walks.list hh3 _ l hneI items).toS) s.heap.objs.size hbf (fun i => xs.getD i Str.empty) hval (by omega) (items.size - 0) 0 _ (by omega) (Nat.zero_le _) ⟨⟨_, Heap.get?_push_size _ rfl, rfl, rfl⟩, (hl1.push _)⟩ ?T0 ?hR
        case T0 => exact (tx_fresh (hp := s.heap) w).at fun u e => Heap.get?_push_of_some _ e
        case hR =>
          intro s' hm T
          obtain ⟨hq, gq, dq, tq, oq⟩ := s'
          have eg : gq = s.gens := hm.gens
          have ed : dq = s.drawn := hm.drawn
          have eo : oq = s.os := hm.os
          subst eg; subst ed; subst eo
          show wpAny _ _ _ _ _ _
          refine wpAny_pure ?_
          show wpAny _ _ (ret Value.none) _ _ _
          rw [hsz]
          refine wpAny_pure ⟨rfl, hq, tq, rfl, T, fun x ob hx e => ?_⟩
          refine hm.heap x ob (fun y => ?_) (Heap.get?_push_of_some _ (Heap.get?_push_of_some _ e))
          rcases List.mem_cons.mp y with e | e
          · exact absurd e (Nat.ne_of_lt hx)
          · exact absurd ((List.mem_singleton.mp e).trans z1) (Nat.ne_of_lt (Nat.lt_succ_of_lt hx))
      · cases r2 with
        | error e => exact hr2
        | ok fl2 =>
          cases fl2 with
          | ret r =>
            obtain ⟨rfl, hq, tk, rfl, T, hk⟩ := hr2
            repeat (any_goals (first | assumption | wp_step))
            exact h _ _ T hk
          | _ => exact hr2.elim
    | _ => exact hr.elim
end
end Tl

namespace Tl
open PySem PySem.Spec PyProof.Rows L2
theorem strs_of : ∀ (l : List Value), (∀ v ∈ l, ∃ z u, v = Value.str z u) → StrsAre l (l.map fun v => match v with | .str z _ => z | _ => Str.empty)
  | [], _ => .nil
  | v :: l, h => by
    obtain ⟨z, u, rfl⟩ := h v List.mem_cons_self
    exact .cons z u (strs_of l fun y hy => h y (List.mem_cons_of_mem _ hy))
section
variable {P : Program} {w : World} {A : Around} {E : Value → Shared → Prop} {s : Shared} {b : Addr} {M : Str → Bool} {c : Nat}
theorem sorted_tx {Q : Value → Shared → Prop} (T : TxSet w s.heap b M c) (hh : A.handled = none) (h64 : c < 64)
    (hQ : ∀ s' p (out : List Value) (ep : Nat) (ys : List Str), (∀ x ob, s.heap.get? x = some ob → s'.heap.get? x = some ob) → s'.gens = s.gens → s'.os = s.os → s.heap.objs.size ≤ p →
      s'.heap.get? p = some (seqObj "list" out.toArray ep) → StrsAre out ys → sortedS ys = true → ys.Nodup → (∀ z, z ∈ ys ↔ M z = true) → ys.length = c → Q (.ref p) s') :
    wpAny (model P w) A (call (.builtin "sorted") [.ref b]) Q E s := by
  obtain ⟨ob, rows, eph, tb, hob, hex, hdt, G⟩ := T
  refine Calls.call_function_entry kind_sorted plain_sorted entry_sorted (args_sorted1 _) ?_
  unfold Builtin.«sorted»
  refine wpAny_bind (m := checkCount "sorted" 1 1 _) (wpAny_pure ?_)
  refine wpAny_bind (collect_set (A := A.in1) hh ⟨ob, hob, hex.1, hdt⟩ G.fit G.few G.ris G.led fun s1 vs k1 hz g1 o1 pm => ?_)
  have hvl : vs.length = c := by
    rw [pm.length_eq, List.length_map, Array.length_toList]
    exact G.num
  have hS := strs_of vs fun v hv => by
    obtain ⟨r, hr, q⟩ := List.mem_map.mp (pm.mem_iff.mp hv)
    obtain ⟨z, u, e1, _⟩ := G.row r hr
    exact ⟨z, u, by rw [← q]; exact e1⟩
  generalize hzs : (vs.map fun v => match v with | .str z _ => z | _ => Str.empty) = zs at hS
  have pk : zs.Perm (rows.toList.map txOf) := by
    have q := pm.map (fun v : Value => match v with | .str z _ => z | _ => Str.empty)
    rw [List.map_map, hzs] at q
    exact q
  refine wpAny_bind (wpAny_newList ?_ (by rw [hvl, sizeLine_eq]; omega))
  have hoL : (s1.heap.push (seqObj "list" vs.toArray 0)).get? s1.heap.objs.size = some (seqObj "list" vs.toArray 0) := Heap.get?_push_size _ rfl
  refine wpAny_bind (wpAny_holding (wpAny_call_entry slot_list_sort ⟨_, hoL, rfl⟩ entry_list_sort
    (list_sort_treeK strKind_oneLt (s := { s1 with heap := s1.heap.push (seqObj "list" vs.toArray 0) }) hoL hS.keysOf (fun v1 v2 rest e => keyKind_strs (by rw [← e]; exact hS)) (by rw [hvl]; exact h64) fun st hp hs => ⟨_, rfl, ?_⟩) (args_list_sort _)))
  obtain ⟨ys, y1, y2, y3⟩ := sorted_out_str hS hp hs
  obtain ⟨ep, hc⟩ := sortedHeap_at (vs := vs) (out := (arrOf st).map (·.2)) hoL
  have pn : ys.Perm (rows.toList.map txOf) := y2.trans pk
  refine wpAny_pure ⟨_, rfl, hQ _ s1.heap.objs.size ((arrOf st).map (·.2)).toList ep ys (fun x u e => ?_) g1 o1 hz (by rw [Array.toArray_toList]; exact hc) y1 y3 (pn.nodup_iff.mpr G.one) (fun z => by rw [pn.mem_iff, ← G.mem z]) ?_⟩
  · have q := k1 x u e
    have hlt := Heap.lt_size q
    show (sortedHeap (s1.heap.push (seqObj "list" vs.toArray 0)) s1.heap.objs.size vs _).get? x = some u
    rw [sortedHeap_old (Nat.ne_of_lt hlt) (by rw [Heap.size_push]; exact Nat.lt_succ_of_lt hlt)]
    exact Heap.get?_push_of_some _ q
  · rw [pn.length_eq, List.length_map, Array.length_toList]
    exact G.num
end
/-- the set of texts at a -/
def TxO (w : World) (b : Addr) (M : Str → Bool) (c : Nat) : HO := .ext fun h => TxSet w h b M c
section
variable {X : Cx}
theorem txO_new {w : World} {P : Program} {H : Hp} {h : Heap} {b : Addr} {M : Str → Bool} {c : Nat} (T : TxSet w h b M c) : ObjOk P w H h b (TxO w b M c) := by
  have ⟨ob, _, _, _, ho, _⟩ := T
  exact ⟨T, ⟨ob, ho⟩, fun h1 h2 p k => TxSet.at p k⟩
/-- set(xs), xs a list of texts: the set of the different ones -/
def rSetTx (K : PySem.W.Frag) (w : World) : List V → Hp → VK → Prop := fun vs H Q => ∃ (l : Addr) (xs : List Str), vs = [V.ref l] ∧ SqL K H l (xs.map V.str) ∧ xs.length + 1 < scanBound ∧
  ∀ (p : Addr) (M : Str → Bool) (c : Nat), H p = none → (∀ z, M z = true ↔ z ∈ xs) → c ≤ xs.length → Q (.ref p) (upd H p (TxO w p M c))
theorem cr_setTx (hc : X.calm = true) : CallR X (.type "set") (rSetTx X.K X.w) := by
  intro pins s σ H vs us Q I r h
  obtain ⟨l, xs, rfl, hs, room, q⟩ := h
  obtain ⟨its, rv, hl, hz⟩ := I.list hs
  rw [Vals.ref1 r]
  have hlen := rv.length
  rw [List.length_map] at hlen
  refine set_of_list (items := its.toArray) (xs := xs) (I.ok.hd hc) hl.isList rv.strs room fun hq tk T hk => ?_
  have hmem : ∀ z, hasS (firsts (fun i => xs.getD i Str.empty) xs.length) z = true ↔ z ∈ xs := fun z => by
    show (firsts _ xs.length).contains z = true ↔ _
    rw [List.contains_iff_mem, firsts_mem, List.mem_iff_getElem]
    constructor
    · rintro ⟨j, hj, e⟩
      exact ⟨j, hj, by rw [← e]; simp [List.getD, List.getElem?_eq_getElem hj]⟩
    · rintro ⟨j, hj, e⟩
      exact ⟨j, hj, by rw [← e]; simp [List.getD, List.getElem?_eq_getElem hj]⟩
  exact ⟨.ref s.heap.objs.size, _, I.laid (t' := tk) (fun x u e => hk x u (Heap.lt_size e) e) (Nat.le_refl _) (txO_new T), rfl, q _ _ _ (I.hok.fresh (Nat.le_refl _)) hmem (firsts_len _ _)⟩
/-- sorted(x), x a set of fewer than 64 texts -/
def rSortTx (w : World) : List V → Hp → VK → Prop := fun vs H Q => ∃ (b : Addr) (M : Str → Bool) (c : Nat), vs = [V.ref b] ∧ H b = some (TxO w b M c) ∧ c < 64 ∧
  ∀ (ys : List Str) (p : Addr), sortedS ys = true → ys.Nodup → (∀ z, z ∈ ys ↔ M z = true) → ys.length = c → H p = none → Q (.ref p) (upd H p (.lst (ys.map V.str)))
theorem cr_sortTx (hc : X.calm = true) : CallR X (.builtin "sorted") (rSortTx X.w) := by
  intro pins s σ H vs us Q I r h
  obtain ⟨b, M, c, rfl, hb, h64, q⟩ := h
  have T : TxSet X.w s.heap b M c := (I.hok b _ hb).1
  rw [Vals.ref1 r]
  refine sorted_tx T (I.ok.hd hc) h64 fun s' p out ep ys k g o hp hg hi y1 y2 y3 y4 => ?_
  have hlen : (ys.map V.str).length ≤ sizeLine := by
    rw [List.length_map, y4, sizeLine_eq]
    omega
  have hn : H p = none := I.hok.fresh hp
  have J : Inv X pins σ (upd H p (.lst (ys.map V.str))) { s with heap := s'.heap, gens := s'.gens, drawn := s'.drawn, toks := s'.toks } :=
    I.call (ch := []) (Un.laid k hp hn) (I.hok.laid k hp ⟨hlen, out, ep, vals_of_strs hi, hg⟩) (by rw [g]; exact I.bare) (fun _ z => nomatch z)
  have e : s' = { s with heap := s'.heap, gens := s'.gens, drawn := s'.drawn, toks := s'.toks } := by
    cases s'
    cases s
    cases o
    rfl
  rw [e]
  exact ⟨.ref p, _, J, rfl, q ys p y1 y2 y3 y4 hn⟩
end
end Tl

namespace K01
open PySem PySem.Spec PyProof.Rows L2 Tl
/-- a def of no defaults as the top leaves it -/
abbrev FnP (K : PySem.W.Frag) (x qual : Str) (st : Stmt) (f : Addr) (fd : FuncData) : Prop := FunD K x qual (defArgs st) (defBody st) (defScope st) [] [] f fd
/-! ### the bag that is drawn from -/
def bagL (c : Addr) (n m k : Int) : List V := [.ref c, .int n, .int m, .int k]
structure Bag (H : Hp) (b c : Addr) : Prop where
  top : ∃ n m k : Int, H b = some (.lst (bagL c n m k))
  cells : ∃ ns : List Int, H c = some (.lst (ns.map V.int))
theorem Bag.ne {H : Hp} {b c : Addr} (B : Bag H b c) : b ≠ c := fun e => by
  obtain ⟨n, m, k, h1⟩ := B.top
  obtain ⟨ns, h2⟩ := B.cells
  rw [e, h2] at h1
  have h3 := HO.lst.inj (Option.some.inj h1)
  cases ns with
  | nil => cases h3
  | cons x r =>
    injection h3 with h4 _
    cases h4
/-- all but the bag stands as it stood -/
def Kept (b c : Addr) (H H' : Hp) : Prop := ∀ x o, H x = some o → x ≠ b → x ≠ c → H' x = some o
theorem Kept.refl {b c : Addr} {H : Hp} : Kept b c H H := fun _ _ e _ _ => e
theorem Kept.trans {b c : Addr} {H1 H2 H3 : Hp} (h : Kept b c H1 H2) (k : Kept b c H2 H3) : Kept b c H1 H3 := fun x o e nb nc => k x o (h x o e nb nc) nb nc
theorem Kept.updB {b c : Addr} {H H' : Hp} {o : HO} (h : Kept b c H H') : Kept b c H (upd H' b o) := fun x u e nb nc => by
  rw [upd_ne nb]
  exact h x u e nb nc
theorem Kept.updC {b c : Addr} {H H' : Hp} {o : HO} (h : Kept b c H H') : Kept b c H (upd H' c o) := fun x u e nb nc => by
  rw [upd_ne nc]
  exact h x u e nb nc
theorem Kept.new {b c : Addr} {H H' : Hp} {o : HO} {p : Addr} (h : Kept b c H H') (hp : H p = none) : Kept b c H (upd H' p o) := fun x u e nb nc => by
  rw [upd_ne (ne_of_none e hp)]
  exact h x u e nb nc
theorem Bag.updB {H : Hp} {b c : Addr} {n m k : Int} (B : Bag H b c) : Bag (upd H b (.lst (bagL c n m k))) b c := ⟨⟨n, m, k, upd_same⟩, by
  obtain ⟨ns, h⟩ := B.cells
  exact ⟨ns, by rw [upd_ne (Ne.symm B.ne)]; exact h⟩⟩
theorem Bag.new {H : Hp} {b c p : Addr} {o : HO} (B : Bag H b c) (hp : H p = none) : Bag (upd H p o) b c := by
  obtain ⟨n, m, k, h1⟩ := B.top
  obtain ⟨ns, h2⟩ := B.cells
  exact ⟨⟨n, m, k, by rw [upd_ne (ne_of_none h1 hp)]; exact h1⟩, ⟨ns, by rw [upd_ne (ne_of_none h2 hp)]; exact h2⟩⟩
theorem seq0 (n : Nat) : seqIndex? 0 (n + 1) = some 0 := (ixN_seq (n := n + 1) (i := 0) (j := 0) (by unfold ixN; rw [if_pos (by decide), if_pos (by omega)]; rfl)).1
section
variable {P : Program} {w : World} {K : PySem.W.Frag} {mg : Str → Option Value} {base : Heap}
def spDraw : Sp := fun vs H Q _ => ∃ (b c : Addr) (lim : Int), vs = [.ref b, .int lim] ∧ Bag H b c ∧ 0 < lim ∧ lim.natAbs < 2 ^ 200 ∧ ∀ (r : Int) (H' : Hp), 0 ≤ r → r < lim → Bag H' b c → Kept b c H H' → Q (.int r) H'
theorem ok_draw {f : Addr} {fd : FuncData} (F : FnP K "_law_draw" "_law_draw" s_l_draw f fd) (ml : mg "len" = none) (mi : mg "int" = none) : FnOk P w K mg base CX0 1 f fd ["_law_bag_here", "_law_limit"] spDraw := by
  have nd := sc_l_draw.nd
  refine F.ok sc_l_draw (fun vs H Q E h => ?_) (fun cdv A outer s H vs Q E hr h => ?_)
  · obtain ⟨b, c, lim, rfl, _⟩ := h
    rfl
  · obtain ⟨b, c, lim, rfl, B, hl, hw, q⟩ := h
    refine ⟨_, PSs.nox (C8.pss_cut (ps_if (PW.pt (pw_and (pt_cmpR op_eq (pe_ix ix_list (pv 0) pe_int (fun _ _ => rfl)) pe_int (nomark _)) (pw_and1 (pt_cmpR op_gt (pe_callB call_len_seq (by rfl) ml PySem.boot_len (pa_cons (pe_ix ix_list (pv 0) pe_int (fun _ _ => rfl)) pa_nil)) pe_int (nomark _)))))
        (pss_cons (ps_set (i := 2) nd rfl (.inl rfl) (pe_bm PySem.F.plainAttrs_list PySem.F.slot_list_pop PySem.F.type_list_pop mt_popAt (pe_ix ix_list (pv 0) pe_int (fun _ _ => rfl)) (pa_cons pe_int pa_nil)))
        (pss_cons (ps_set (i := 3) nd rfl (.inl rfl) (pe_op op_mul pe_int (pv 2)))
        (C8.pss_cut (ps_if (pt_cmpR op_lt (pv 2) pe_int (nomark _)) (pss_one (ps_set (i := 3) nd rfl (.inl rfl) (pe_op op_sub (pe_op op_mul (pe_un un_neg pe_int) (pv 2)) pe_int))) pss_nil)
        (C8.pss_cut (ps_if (pt_cmpR op_ge (pv 3) (pe_op op_pow pe_int pe_int) (nomark _)) (pss_one (ps_asg (pv 3) (pg_sub (pv 0) pe_int set_list))) pss_nil)
        (pss_one (ps_asg (pe_op op_mod (pe_callTy call_int1 (by rfl) mi (by decide +kernel) (pa_cons (pe_op op_add (pe_op op_add (pe_op op_mul (pe_ix ix_list (pv 0) pe_int (fun _ _ => rfl)) pe_int) (pv 3)) pe_int) pa_nil)) pe_int) (pg_sub (pv 0) pe_int set_list)))))))
        pss_nil)
      (pss_cons (ps_if (pt_cmpR op_gt (pe_ix ix_list (pv 0) pe_int (fun _ _ => rfl)) pe_int (nomark _))
        (pss_cons (ps_set (i := 4) nd rfl (.inl rfl) (pe_op op_mod (pe_callTy call_int1 (by rfl) mi (by decide +kernel) (pa_cons (pe_ix ix_list (pv 0) pe_int (fun _ _ => rfl)) pa_nil)) (pv 1)))
        (pss_cons (ps_asg (pe_op op_fdivW (pe_ix ix_list (pv 0) pe_int (fun _ _ => rfl)) (pv 1)) (pg_sub (pv 0) pe_int set_list))
        (pss_one (ps_ret (pv 4))))) pss_nil)
      (pss_cons (ps_asg (pe_op op_add (pe_ix ix_list (pv 0) pe_int (fun _ _ => rfl)) pe_int) (pg_sub (pv 0) pe_int set_list))
      (pss_cons (ps_set (i := 5) nd rfl (.inl rfl) (pe_op op_mod (pe_callTy call_int1 (by rfl) mi (by decide +kernel) (pa_cons (pe_op op_mul (pe_op op_add (pe_op op_add (pe_ix ix_list (pv 0) pe_int (fun _ _ => rfl)) (pe_op op_mul pe_int (pe_ix ix_list (pv 0) pe_int (fun _ _ => rfl)))) pe_int) pe_int) pa_nil)) pe_int))
      (pss_cons (ps_set (i := 5) nd rfl (.inl rfl) (pe_op op_mod (pe_callTy call_int1 (by rfl) mi (by decide +kernel) (pa_cons (pe_op op_mul (pv 5) (pe_op op_add (pe_op op_fdiv (pv 5) pe_int) pe_int)) pa_nil)) pe_int))
      (pss_cons (ps_set (i := 5) nd rfl (.inl rfl) (pe_op op_mod (pe_callTy call_int1 (by rfl) mi (by decide +kernel) (pa_cons (pe_op op_mul (pv 5) (pe_op op_add (pe_op op_fdiv (pv 5) pe_int) pe_int)) pa_nil)) pe_int))
      (pss_one (ps_ret (pe_op op_mod (pe_callTy call_int1 (by rfl) mi (by decide +kernel) (pa_cons (pe_op op_fdiv (pv 5) pe_int) pa_nil)) (pv 1)))))))))), ?_⟩
    have at0 : ∀ (n m k : Int), atI (bagL c n m k) 0 = some (.ref c) := fun _ _ _ => rfl
    have at1 : ∀ (n m k : Int), atI (bagL c n m k) 1 = some (.int n) := fun _ _ _ => rfl
    have at2 : ∀ (n m k : Int), atI (bagL c n m k) 2 = some (.int m) := fun _ _ _ => rfl
    have at3 : ∀ (n m k : Int), atI (bagL c n m k) 3 = some (.int k) := fun _ _ _ => rfl
    refine ⟨fun σ' H' => ∃ x2 x3 x4 x5, σ' = [some (.ref b), some (.int lim), x2, x3, x4, x5] ∧ Bag H' b c ∧ Kept b c H H', ?_, ?_⟩
    · obtain ⟨n, m, k, hb⟩ := B.top
      obtain ⟨ns, hc⟩ := B.cells
      have nbc := B.ne
      have skip : ∃ x2 x3 x4 x5 : Option V, start ["_law_bag_here", "_law_limit", "_law_cell", "_law_number", "_law_drawn", "_law_one"] [V.ref b, V.int lim] = [some (.ref b), some (.int lim), x2, x3, x4, x5] ∧ Bag H b c ∧ Kept b c H H := ⟨none, none, none, none, rfl, B, Kept.refl⟩
      refine ⟨.ref b, rfl, b, _, 1, _, rfl, rfl, SqL.of hb, at1 n m k, rfl, _, rfl, ite2 (fun e1 => ?_) fun e1 => iteF skip⟩
      refine ⟨.ref b, rfl, b, _, 0, _, rfl, rfl, SqL.of hb, at0 n m k, c, _, rfl, .inl (SqL.of hc), _, _, rfl, rfl, _, rfl, ite2 (fun e2 => ?_) fun e2 => skip⟩
      obtain ⟨x, r, rfl⟩ : ∃ x r, ns = x :: r := by
        cases ns with
        | nil => exact absurd (of_decide_eq_true e2) (by simp)
        | cons x r => exact ⟨x, r, rfl⟩
      -- the first cell is taken
      refine ⟨.ref b, rfl, b, _, 0, _, rfl, rfl, SqL.of hb, at0 n m k, .inl ⟨rfl, _, SqL.of hc⟩, c, _, 0, 0, .int x, rfl, rfl, hc, by decide, by decide, seq0 _, rfl, ?_⟩
      have el : ((x :: r).map V.int).eraseIdx 0 = r.map V.int := rfl
      rw [el]
      generalize hH1 : upd H c (.lst (r.map V.int)) = H1
      have B1 : Bag H1 b c := by
        rw [← hH1]
        exact ⟨⟨n, m, k, by rw [upd_ne nbc]; exact hb⟩, ⟨r, upd_same⟩⟩
      have K1 : Kept b c H H1 := by
        rw [← hH1]
        exact Kept.refl.updC
      -- number = 2 * cell
      refine ⟨_, rfl, _, _, rfl, rfl, .inl (by decide), ?_⟩
      refine ⟨fun σ' H' => ∃ y : Int, σ' = [some (.ref b), some (.int lim), some (.int x), some (.int y), none, none] ∧ H' = H1, ?_, ?_⟩
      · refine ⟨_, rfl, _, _, rfl, rfl, _, rfl, ite2 (fun e3 => ?_) fun e3 => ⟨_, rfl, rfl⟩⟩
        refine ⟨_, rfl, _, rfl, _, _, rfl, rfl, .inl (by decide), _, _, rfl, rfl, ?_⟩
        exact ⟨_, rfl, rfl⟩
      · rintro σ' H' ⟨y, rfl, rfl⟩
        obtain ⟨n1, m1, k1, hb1⟩ := B1.top
        refine ⟨fun σ' H' => σ' = [some (.ref b), some (.int lim), some (.int x), some (.int y), none, none] ∧ Bag H' b c ∧ Kept b c H H', ?_, ?_⟩
        · refine ⟨_, rfl, _, _, rfl, rfl, ⟨by decide, by decide, by decide⟩, _, _, rfl, rfl, _, rfl, ite2 (fun e4 => ?_) fun e4 => ⟨rfl, B1, K1⟩⟩
          exact ⟨_, rfl, .ref b, rfl, b, _, 1, 1, rfl, rfl, hb1, rfl, rfl, B1.updB (n := y) (m := m1) (k := k1), K1.updB⟩
        · rintro σ' H' ⟨rfl, B2, K2⟩
          obtain ⟨n2, m2, k2, hb2⟩ := B2.top
          refine ⟨.ref b, rfl, b, _, 2, _, rfl, rfl, SqL.of hb2, at2 n2 m2 k2, _, _, rfl, rfl, .inr (by decide), _, rfl, _, _, rfl, rfl, _, _, rfl, rfl, .inl ⟨_, rfl, ?_⟩⟩
          refine ⟨_, _, rfl, rfl, (by show (0 : Int) < 2147483647; decide), .ref b, rfl, b, _, 2, 2, rfl, rfl, hb2, rfl, ?_⟩
          exact ⟨_, _, _, _, rfl, B2.updB, K2.updB⟩
    · rintro σ' H1 ⟨x2, x3, x4, x5, rfl, B1, K1⟩
      obtain ⟨n, m, k, hb⟩ := B1.top
      refine ⟨.ref b, rfl, b, _, 1, _, rfl, rfl, SqL.of hb, at1 n m k, _, _, rfl, rfl, _, rfl, ite2 (fun e1 => ?_) fun e1 => ?_⟩
      · refine ⟨.ref b, rfl, b, _, 1, _, rfl, rfl, SqL.of hb, at1 n m k, .inl ⟨_, rfl, ?_⟩⟩
        refine ⟨_, rfl, _, _, rfl, rfl, hl, ?_⟩
        refine ⟨.ref b, rfl, b, _, 1, _, rfl, rfl, SqL.of hb, at1 n m k, _, rfl, _, _, rfl, rfl, wide_div hl hw (by decide) (by decide), ?_⟩
        refine ⟨.ref b, rfl, b, _, 1, 1, rfl, rfl, hb, rfl, _, rfl, ?_⟩
        exact q _ _ (Int.emod_nonneg _ (by omega)) (Int.emod_lt_of_pos _ hl) B1.updB K1.updB
      · refine ⟨.ref b, rfl, b, _, 3, _, rfl, rfl, SqL.of hb, at3 n m k, _, _, rfl, rfl, .ref b, rfl, b, _, 3, 3, rfl, rfl, hb, rfl, ?_⟩
        have B2 : Bag (upd H1 b (.lst (bagL c n m (k + 1)))) b c := B1.updB
        have K2 : Kept b c H (upd H1 b (.lst (bagL c n m (k + 1)))) := K1.updB
        have hb2 : (upd H1 b (.lst (bagL c n m (k + 1)))) b = some (.lst (bagL c n m (k + 1))) := upd_same
        show _
        refine ⟨.ref b, rfl, b, _, 2, _, rfl, rfl, SqL.of hb2, at2 n m (k + 1), .ref b, rfl, b, _, 3, _, rfl, rfl, SqL.of hb2, at3 n m (k + 1), _, _, rfl, rfl, .inl (by decide), _, _, rfl, rfl, _, _, rfl, rfl, _, _, rfl, rfl, .inr (by decide), .inl ⟨_, rfl, ?_⟩⟩
        refine ⟨_, _, rfl, rfl, (by show (0 : Int) < 2147483647; decide), ?_⟩
        have z1 := Int.emod_nonneg ((m + 7919 * (k + 1) + 1) * 48271) (show (2147483647 : Int) ≠ 0 by decide)
        have z2 := Int.emod_lt_of_pos ((m + 7919 * (k + 1) + 1) * 48271) (show (0 : Int) < 2147483647 by decide)
        generalize ((m + 7919 * (k + 1) + 1) * 48271) % 2147483647 = o1 at z1 z2 ⊢
        refine ⟨_, rfl, _, rfl, _, _, rfl, rfl, ⟨by decide, by decide⟩, _, _, rfl, rfl, _, _, rfl, rfl, .inl ⟨by omega, by omega⟩, .inl ⟨_, rfl, ?_⟩⟩
        refine ⟨_, _, rfl, rfl, (by show (0 : Int) < 2147483647; decide), ?_⟩
        have y1 := Int.emod_nonneg (o1 * (o1 / 1009 + 69621)) (show (2147483647 : Int) ≠ 0 by decide)
        have y2 := Int.emod_lt_of_pos (o1 * (o1 / 1009 + 69621)) (show (0 : Int) < 2147483647 by decide)
        generalize (o1 * (o1 / 1009 + 69621)) % 2147483647 = o2 at y1 y2 ⊢
        refine ⟨_, rfl, _, rfl, _, _, rfl, rfl, ⟨by decide, by decide⟩, _, _, rfl, rfl, _, _, rfl, rfl, .inl ⟨by omega, by omega⟩, .inl ⟨_, rfl, ?_⟩⟩
        refine ⟨_, _, rfl, rfl, (by show (0 : Int) < 2147483399; decide), ?_⟩
        refine ⟨_, rfl, _, _, rfl, rfl, ⟨by decide, by decide⟩, .inl ⟨_, rfl, ?_⟩⟩
        refine ⟨_, rfl, _, _, rfl, rfl, hl, ?_⟩
        exact q _ _ (Int.emod_nonneg _ (by omega)) (Int.emod_lt_of_pos _ hl) B2 K2
end
end K01

namespace K01
open PySem PySem.Spec PyProof.Rows L2 Tl
theorem cut_ints (ns : List Int) (lo hi : Option Int) : ∃ ms : List Int, cutV (ns.map V.int) lo hi = ms.map V.int := by
  refine ⟨(ns.drop (HT.sIx (ns.map V.int).length 0 lo)).take (HT.sIx (ns.map V.int).length (ns.map V.int).length hi - HT.sIx (ns.map V.int).length 0 lo), ?_⟩
  unfold cutV
  rw [← List.map_drop, ← List.map_take]
theorem same_new {H : Hp} {p : Addr} {o : HO} (h : H p = none) : Same H (upd H p o) := fun b x e => by
  rw [upd_ne (ne_of_none e h)]
  exact e
theorem erase_map {α β : Type} (f : α → β) : ∀ (l : List α) (i : Nat), (l.map f).eraseIdx i = (l.eraseIdx i).map f
  | [], _ => rfl
  | _ :: _, 0 => rfl
  | x :: l, i + 1 => congrArg (f x :: ·) (erase_map f l i)
theorem erase_cons {α : Type} : ∀ (l : List α) (i : Nat) (h : i < l.length), List.Perm (l[i] :: l.eraseIdx i) l
  | [], i, h => absurd h (Nat.not_lt_zero i)
  | _ :: _, 0, _ => List.Perm.refl _
  | x :: l, i + 1, h => (List.Perm.swap x _ _).trans ((erase_cons l i (Nat.lt_of_succ_lt_succ h)).cons x)
/-- all the signs, by their codes -/
def alpha : List Nat := (List.range 95).filterMap fun i => if i = 5 then none else some (i + 32)
theorem alpha_len : alpha.length = 94 := by decide +kernel
theorem alpha_nodup : alpha.Nodup := by decide +kernel
theorem line_small {n : Nat} (h : n ≤ 16777216) : n ≤ sizeLine := by
  rw [sizeLine_eq]
  exact h
section
variable {P : Program} {w : World} {K : PySem.W.Frag} {mg : Str → Option Value} {base : Heap}
def spBag (K : PySem.W.Frag) : Sp := fun vs H Q _ => ∃ (a : Addr) (ns : List Int), vs = [.ref a] ∧ SqL K H a (ns.map V.int) ∧ ns.length ≤ 63 ∧ ∀ (b c : Addr) (H' : Hp), H b = none → H c = none → Bag H' b c → Same H H' → Q (.ref b) H'
theorem ok_bag {f : Addr} {fd : FuncData} (F : FnP K "_law_bag" "_law_bag" s_l_bag f fd) (ml : mg "list" = none) : FnOk P w K mg base CX0 1 f fd ["_law_script"] (spBag K) := by
  refine F.ok sc_l_bag (fun vs H Q E h => ?_) (fun cdv A outer s H vs Q E hr h => ?_)
  · obtain ⟨a, ns, rfl, _⟩ := h
    rfl
  · obtain ⟨a, ns, rfl, hS, hlen, q⟩ := h
    refine ⟨_, PSs.nox (pss_one (ps_ret (pe_lst (pa_cons (pe_callTy call_list_of (by rfl) ml (by decide +kernel) (pa_cons (pe_slice sl_list (pv 0) po_none (po_some pe_int)) pa_nil)) (pa_cons pe_int (pa_cons pe_int (pa_cons pe_int pa_nil))))))), ?_⟩
    refine ⟨.ref a, rfl, 63, rfl, a, _, rfl, hS, fun p hp => ?_⟩
    obtain ⟨ms, em⟩ := cut_ints ns none (some 63)
    rw [em]
    refine ⟨p, _, rfl, .inl (SqL.of upd_same), fun c hc => ?_⟩
    refine ⟨by show 4 ≤ sizeLine; exact line_small (by decide), fun b hb => ?_⟩
    have s1 : Same H (upd H p (.lst (ms.map V.int))) := same_new hp
    have s2 := s1.trans (same_new (o := .lst (ms.map V.int)) hc)
    have s3 := s2.trans (same_new (o := .lst [V.ref c, .int 0, .int 0, .int 0]) hb)
    have nbc : c ≠ b := ne_of_none upd_same hb
    refine q b c _ (s2.free hb) (s1.free hc) ⟨⟨0, 0, 0, upd_same⟩, ⟨ms, ?_⟩⟩ s3
    rw [upd_ne nbc, upd_same]
def spAlpha : Sp := fun vs H Q _ => vs = [] ∧ Q (.str (tx alpha)) H
theorem ok_alpha {f : Addr} {fd : FuncData} (F : FnP K "_law_alphabet" "_law_alphabet" s_l_alphabet f fd) : FnOk P w K mg base CX0 1 f fd [] spAlpha := by
  refine F.ok sc_l_alphabet (fun vs H Q E h => ?_) (fun cdv A outer s H vs Q E hr h => ?_)
  · obtain ⟨rfl, _⟩ := h
    rfl
  · obtain ⟨rfl, q⟩ := h
    refine ⟨_, PSs.nox (pss_cons (ps_set (i := 0) sc_l_alphabet.nd rfl (.inl rfl) pe_str) (pss_one (ps_ret (pe_op op_add_str (pv 0) pe_str)))), ?_⟩
    refine ⟨_, rfl, _, _, rfl, rfl, line_small (by decide +kernel), ?_⟩
    have e : ∀ z : Str, z = tx alpha → Q (.str z) H := fun z hz => by
      rw [hz]
      exact q
    exact e _ (by decide +kernel)
def lettersV (ls : List Nat) : List V := ls.map fun n => V.str (sg n)
def spLetters : Sp := fun vs H Q _ => ∃ (b c : Addr) (many : Int), vs = [.ref b, .int many] ∧ Bag H b c ∧ 0 ≤ many ∧ many ≤ 94 ∧
  ∀ (p : Addr) (ls : List Nat) (H' : Hp), (ls.length : Int) = many → ls.Nodup → (∀ x ∈ ls, x ∈ alpha) → H p = none → H' p = some (.lst (lettersV ls)) → Bag H' b c → Kept b c H H' → Q (.ref p) H'
theorem ok_letters {f fA fD : Addr} {fd fdA fdD : FuncData} (F : FnP K "_law_letters" "_law_letters" s_l_letters f fd) (ml : mg "list" = none) (mn : mg "len" = none) (mr : mg "range" = none)
    (GA : FnOk P w K mg base CX0 1 fA fdA [] spAlpha) (gA : mg "_law_alphabet" = some (.ref fA)) (kA : PySem.W.keepIn K (.ref fA) = true) (bA : Binds K fdA [] [])
    (GD : FnOk P w K mg base CX0 1 fD fdD ["_law_bag_here", "_law_limit"] spDraw) (gD : mg "_law_draw" = some (.ref fD)) (kD : PySem.W.keepIn K (.ref fD) = true) (bD : Binds K fdD ["_law_bag_here", "_law_limit"] []) :
    FnOk P w K mg base CX0 2 f fd ["_law_bag_here", "_law_many"] spLetters := by
  have nd := sc_l_letters.nd
  refine F.ok sc_l_letters (fun vs H Q E h => ?_) (fun cdv A outer s H vs Q E hr h => ?_)
  · obtain ⟨b, c, many, rfl, _⟩ := h
    rfl
  · obtain ⟨b, c, many, rfl, B, h0, h94, q⟩ := h
    refine ⟨_, PSs.nox (pss_cons (ps_set (i := 2) nd rfl (.inl rfl) (pe_callTy (call_listTx rfl) (by rfl) ml (by decide +kernel) (pa_cons (pe_call0 GA hr (by rfl) gA kA bA .nil pass0) pa_nil)))
      (pss_cons (ps_set (i := 3) nd rfl (.inl rfl) (pe_lst pa_nil))
      (pss_cons (ps_for PassesOwn.never rfl (pi_range1 rfl mr (pa_cons (pv 1) pa_nil)) (pg_name (i := 4) nd rfl (.inl rfl))
        (pss_one (ps_expr (pe_bm PySem.F.plainAttrs_list PySem.F.slot_list_append PySem.F.type_list_append mt_append (pv 3)
          (pa_cons (pe_bm PySem.F.plainAttrs_list PySem.F.slot_list_pop PySem.F.type_list_pop mt_popAt (pv 2)
            (pa_cons (pe_call GD hr (by rfl) gD kD bD .nil pass0 (pa_cons (pv 0) (pa_cons (pe_callB call_len_seq (by rfl) mn PySem.boot_len (pa_cons (pv 2) pa_nil)) pa_nil))) pa_nil)) pa_nil)))))
      (pss_one (ps_ret (pv 3)))))), ?_⟩
    -- rest, found
    refine ⟨rfl, alpha, rfl, line_small (by rw [alpha_len]; decide), fun r hr0 => ?_⟩
    refine ⟨Nat.zero_le _, fun p hp => ?_⟩
    have s1 : Same H (upd H r (.lst (alpha.map fun n => V.str (sg n)))) := same_new hr0
    have hp0 : H p = none := s1.free hp
    have nrp : r ≠ p := ne_of_none upd_same hp
    refine ⟨_, rfl, many, rfl, by omega, by omega, for_range (n := many.toNat) (fun i σ H' => ∃ (x4 : Option V) (ls rs : List Nat), σ = [some (.ref b), some (.int many), some (.ref r), some (.ref p), x4] ∧ H' r = some (.lst (lettersV rs)) ∧ H' p = some (.lst (lettersV ls)) ∧
      (ls ++ rs).Perm alpha ∧ ls.length = i ∧ Bag H' b c ∧ Kept b c H H') ?_ ?_ ?_⟩
    · refine ⟨none, [], alpha, rfl, ?_, upd_same, List.Perm.refl _, rfl, ((B.new hr0).new hp), (Kept.refl.new hr0).new hp0⟩
      rw [upd_ne nrp, upd_same]
      rfl
    · rintro i σ H1 hi ⟨x4, ls, rs, rfl, h1, h2, pm, el, B1, K1⟩
      have elen : ls.length + rs.length = 94 := by
        rw [← List.length_append, pm.length_eq, alpha_len]
      have hrl : 0 < rs.length := by omega
      refine ⟨.ref p, rfl, .inl ⟨rfl, _, SqL.of h2⟩, .ref r, rfl, .inl ⟨rfl, _, SqL.of h1⟩, .ref b, rfl, .ref r, rfl, r, _, rfl, .inl (SqL.of h1), ?_⟩
      refine ⟨b, c, _, rfl, B1, ?_, ?_, fun d H2 d0 d1 B2 K2 => ?_⟩
      · rw [show (lettersV rs).length = rs.length from List.length_map _]
        omega
      · rw [show (lettersV rs).length = rs.length from List.length_map _]
        show rs.length < 2 ^ 200
        exact Nat.lt_of_le_of_lt (show rs.length ≤ 94 by omega) (by decide)
      · rw [show (lettersV rs).length = rs.length from List.length_map _] at d1
        obtain ⟨n1, m1, k1, hb1⟩ := B.top
        obtain ⟨ns1, hc1⟩ := B.cells
        have nrb : r ≠ b := Ne.symm (ne_of_none hb1 hr0)
        have nrc : r ≠ c := Ne.symm (ne_of_none hc1 hr0)
        have npb : p ≠ b := Ne.symm (ne_of_none hb1 hp0)
        have npc : p ≠ c := Ne.symm (ne_of_none hc1 hp0)
        have g1 := K2 _ _ h1 nrb nrc
        have g2 := K2 _ _ h2 npb npc
        have hj : d.toNat < rs.length := by omega
        have hx : rs[d.toNat]? = some rs[d.toNat] := List.getElem?_eq_getElem hj
        have hgx : (lettersV rs)[d.toNat]? = some (.str (sg rs[d.toNat])) := by
          unfold lettersV
          rw [List.getElem?_map, hx]
          rfl
        have hsq : seqIndex? d (lettersV rs).length = some d.toNat := by
          refine (ixN_seq (n := (lettersV rs).length) (i := d) (j := d.toNat) ?_).1
          unfold ixN lettersV
          rw [List.length_map, if_pos d0, if_pos (by omega)]
        refine ⟨r, _, d, d.toNat, _, rfl, rfl, g1, by omega, by omega, hsq, hgx, ?_⟩
        have ee : (lettersV rs).eraseIdx d.toNat = lettersV (rs.eraseIdx d.toNat) := by
          unfold lettersV
          exact erase_map _ _ _
        rw [ee]
        refine ⟨p, _, _, rfl, rfl, (by rw [upd_ne (Ne.symm nrp)]; exact g2), ?_, ?_⟩
        · rw [show (lettersV ls).length = ls.length from List.length_map _]
          exact small1000 (by omega)
        · have ea : lettersV ls ++ [V.str (sg rs[d.toNat])] = lettersV (ls ++ [rs[d.toNat]]) := by
            unfold lettersV
            rw [List.map_append]
            rfl
          rw [ea]
          refine ⟨_, ls ++ [rs[d.toNat]], rs.eraseIdx d.toNat, rfl, by rw [upd_ne nrp, upd_same], upd_same, ?_, ?_, ?_, ?_⟩
          · rw [List.append_assoc]
            refine List.Perm.trans (List.Perm.append_left ls ?_) pm
            exact erase_cons rs d.toNat hj
          · rw [List.length_append, el]
            rfl
          · obtain ⟨n2, m2, k2, hb2⟩ := B2.top
            obtain ⟨ns2, hc2⟩ := B2.cells
            exact ⟨⟨n2, m2, k2, by rw [upd_ne (Ne.symm npb), upd_ne (Ne.symm nrb)]; exact hb2⟩, ⟨ns2, by rw [upd_ne (Ne.symm npc), upd_ne (Ne.symm nrc)]; exact hc2⟩⟩
          · exact ((K1.trans K2).new hr0).new hp0
    · rintro σ H1 ⟨x4, ls, rs, rfl, h1, h2, pm, el, B1, K1⟩
      refine ⟨_, rfl, q p ls H1 (by omega) ?_ (fun x hx => pm.mem_iff.mp (List.mem_append_left _ hx)) hp0 h2 B1 K1⟩
      exact (List.nodup_append.mp (pm.nodup_iff.mpr alpha_nodup)).1
end
end K01

namespace K01
open PySem PySem.Spec PyProof.Rows L2 Tl
/-! ### the mathematics of sets of signs: an ascending list of codes -/
def norm (l : List Nat) : List Nat := alpha.filter fun n => decide (n ∈ l)
theorem mem_norm {l : List Nat} (h : ∀ n ∈ l, n ∈ alpha) (n : Nat) : n ∈ norm l ↔ n ∈ l := by
  unfold norm
  rw [List.mem_filter, decide_eq_true_eq]
  exact ⟨fun x => x.2, fun x => ⟨h n x, x⟩⟩
theorem norm_sub (l : List Nat) : ∀ n ∈ norm l, n ∈ alpha := fun n h => (List.mem_filter.mp h).1
theorem norm_congr {l k : List Nat} (h : ∀ n ∈ alpha, n ∈ l ↔ n ∈ k) : norm l = norm k := by
  unfold norm
  exact List.filter_congr fun n hn => by
    rw [decide_eq_decide]
    exact h n hn
theorem norm_norm (l : List Nat) : norm (norm l) = norm l := norm_congr fun n hn => by
  unfold norm
  rw [List.mem_filter, decide_eq_true_eq]
  exact ⟨fun x => x.2, fun x => ⟨hn, x⟩⟩
theorem norm_len (l : List Nat) : (norm l).length ≤ 94 := by
  have h := List.length_filter_le (fun n => decide (n ∈ l)) alpha
  rw [alpha_len] at h
  exact h
theorem norm_filter (l : List Nat) (p : Nat → Bool) : (norm l).filter p = norm ((norm l).filter p) := by
  have e : norm ((norm l).filter p) = alpha.filter fun n => decide (n ∈ l) && p n := by
    unfold norm
    refine List.filter_congr fun n hn => ?_
    rw [Bool.eq_iff_iff, decide_eq_true_eq, List.mem_filter, List.mem_filter, Bool.and_eq_true]
    exact ⟨fun x => ⟨x.1.2, x.2⟩, fun x => ⟨⟨hn, x.1⟩, x.2⟩⟩
  rw [e]
  unfold norm
  rw [List.filter_filter]
  exact List.filter_congr fun n _ => Bool.and_comm _ _
/-! ### the class Signs -/
/-- the attributes of a set of the signs S -/
def flS (S : List Nat) : List (Str × V) := [("signs", .str (tx S))]
theorem flS_signs (S : List Nat) : (flS S).lookup ("signs" : Str) = some (.str (tx S)) := by
  unfold flS
  simp [List.lookup]
theorem flS_no (S : List Nat) {m : Str} (h : ¬ m = "signs") : (flS S).lookup m = none := by
  unfold flS
  have e : (m == ("signs" : Str)) = false := by simpa using h
  simp [List.lookup, e]
/-- a set of signs stands at a -/
structure Sg (C : Addr) (H : Hp) (a : Addr) (S : List Nat) : Prop where
  ob : ∃ dx, H a = some (.ins C dx (flS S))
  can : norm S = S
theorem Sg.at {C : Addr} {H H' : Hp} {a : Addr} {S : List Nat} (h : Sg C H a S) (k : ∀ o, H a = some o → H' a = some o) : Sg C H' a S := by
  obtain ⟨⟨dx, e⟩, c⟩ := h
  exact ⟨⟨dx, k _ e⟩, c⟩
theorem Sg.len {C : Addr} {H : Hp} {a : Addr} {S : List Nat} (h : Sg C H a S) : S.length ≤ 94 := by
  rw [← h.can]
  exact norm_len S
theorem Sg.sub {C : Addr} {H : Hp} {a : Addr} {S : List Nat} (h : Sg C H a S) : ∀ n ∈ S, n ∈ alpha := by
  rw [← h.can]
  exact norm_sub S
/-- a text of signs -/
structure SgT (l : List Nat) : Prop where
  sub : ∀ n ∈ l, n ∈ alpha
  few : l.length ≤ 2000
theorem Sg.txt {C : Addr} {H : Hp} {a : Addr} {S : List Nat} (h : Sg C H a S) : SgT S := ⟨h.sub, Nat.le_trans h.len (by decide)⟩
/-- what an operand may be: a set of the signs S or a text of them -/
def Opd (C : Addr) (H : Hp) (x : V) (S : List Nat) : Prop := (∃ a, x = .ref a ∧ Sg C H a S) ∨ ∃ l, x = .str (tx l) ∧ SgT l ∧ S = norm l
theorem Opd.can {C : Addr} {H : Hp} {x : V} {S : List Nat} (h : Opd C H x S) : norm S = S := by
  rcases h with ⟨a, _, h⟩ | ⟨l, _, _, rfl⟩
  · exact h.can
  · exact norm_norm l
theorem Opd.len {C : Addr} {H : Hp} {x : V} {S : List Nat} (h : Opd C H x S) : S.length ≤ 94 := by
  rw [← h.can]
  exact norm_len S
theorem Opd.sub {C : Addr} {H : Hp} {x : V} {S : List Nat} (h : Opd C H x S) : ∀ n ∈ S, n ∈ alpha := by
  rw [← h.can]
  exact norm_sub S
theorem Opd.at {C : Addr} {H H' : Hp} {x : V} {S : List Nat} (h : Opd C H x S) (k : Same H H') : Opd C H' x S := by
  rcases h with ⟨a, e, h⟩ | h
  · exact .inl ⟨a, e, h.at fun o z => k _ _ z⟩
  · exact .inr h
/-- what the walk asks of the top -/
structure Txt (K : PySem.W.Frag) (mg : Str → Option Value) (C : Addr) : Prop where
  cl : Cls K C
  nS : NoAttr K C "signs"
  gC : mg "Signs" = some (.ref C)
  isi : mg "isinstance" = none
  str : mg "str" = none
  all : mg "all" = none
  len : mg "len" = none
  bool : mg "bool" = none
  sgn : ∃ t, mg "SIGNS" = some (.str (tx alpha) t)
  first : PySem.W.selfFirst K C = true
  kStr : PySem.W.kitOne K (.type "str") (.ref C) = some false
  kOwn : PySem.W.kitOne K (.ref C) (.ref C) = some true
  sStr : PySem.W.subIn K (.type "str") (.ref C) = some false
  opStr : ∀ m ∈ ["or", "and", "sub"], PySem.W.findIn K (.type "str") (PySem.dunder m) = some none ∧ PySem.W.findIn K (.type "str") (PySem.dunderR m) = some none
  c1 : PySem.W.findIn K (.ref C) "__class__" = some (some (.builtin "object.__class__"))
  c2 : PySem.W.specialIn K (.builtin "object.__class__") "__get__" = some (some (.builtin "getset_descriptor.__get__"))
  c3 : PySem.W.takesIn K (.builtin "object.__class__") = some true
  c4 : PySem.W.mroIn K C (.type "object") = some true
theorem Txt.ty {K : PySem.W.Frag} {mg : Str → Option Value} {C : Addr} (T : Txt K mg C) {H : Hp} {a : Addr} {S : List Nat} (h : Sg C H a S) : TyX K H (.ref a) (.ref C) := by
  obtain ⟨⟨dx, e⟩, _⟩ := h
  exact .base (.ins e T.cl T.c1 T.c2 T.c3 T.c4)
section
variable {P : Program} {w : World} {K : PySem.W.Frag} {mg : Str → Option Value} {base : Heap} {C : Addr}
/-- a promise that hands back a value beside a heap in which all stands as it stood -/
abbrev Gives (H : Hp) (Q : VK) (v : V) : Prop := ∀ H', Same H H' → Q v H'
def spText : Sp := fun vs H Q _ => ∃ l, vs = [.str (tx l)] ∧ SgT l ∧ Gives H Q (.bl true)
theorem ok_is_sign_text {f : Addr} {fd : FuncData} (F : FnP K "is_sign_text" "is_sign_text" s_is_sign_text f fd) (T : Txt K mg C) : FnOk P w K mg base CX0 1 f fd ["thing"] spText := by
  have nd := sc_is_sign_text.nd
  refine F.ok sc_is_sign_text (fun vs H Q E h => ?_) (fun cdv A outer s H vs Q E hr h => ?_)
  · obtain ⟨l, rfl, _⟩ := h
    rfl
  · obtain ⟨l, rfl, hl, q⟩ := h
    obtain ⟨t, gS⟩ := T.sgn
    refine ⟨_, PSs.nox (pss_one (ps_ret (pe_and (pe_callB call_isi (by rfl) T.isi (by decide +kernel) (pa_cons (pv 0) (pa_cons (pe_bltn (v := .ty "str") (by rfl) T.str (by decide +kernel) rfl) pa_nil)))
      (pe_one (pe_callB (cr_all rfl) (by rfl) T.all (by decide +kernel) (pa_cons (pe_lc (own := [("sign", 1)]) (g := gName 1) (tt := tYes) rfl nd (pi_str (pv 0)) (blkOk_by (N := ["thing", "sign"]) (sc := defScope s_is_sign_text) (by decide +kernel)) (fun _ _ _ _ _ => pg_name (i := 1) nd rfl (Or.inl rfl)) (fun _ _ _ _ _ => pts_nil)
        (fun _ _ _ _ _ => pe_cmpR op_in_sign (pv 1) (pe_glob (v := .str (tx alpha)) rfl gS ⟨_, rfl⟩) rfl)) pa_nil)))))), ?_⟩
    refine ⟨_, rfl, _, _, _, _, true, rfl, .ty "str", .base (.str _), kit_ty (by decide +kernel), true, rfl, iteT ?_⟩
    refine cb_one ?_
    refine lc_tx (l := l) (p := fun _ => true) (f := fun n => V.bl (decide (n ∈ alpha))) (i := 1) (Nat.le_trans hl.few (by decide)) (fun Q' z => ⟨_, rfl, z⟩) (fun _ => rfl) (fun n H2 Qb _ z => z) (fun n H2 Q' _ z => ⟨_, rfl, n, tx alpha, rfl, rfl, z⟩) fun D hD => ?_
    have eb : ((l.filter fun _ => true).map fun n => V.bl (decide (n ∈ alpha))) = (l.map fun n => decide (n ∈ alpha)).map V.bl := by
      rw [List.filter_eq_self.mpr (fun _ _ => rfl), List.map_map]
      rfl
    refine ⟨D, _, rfl, SqL.of (by rw [← eb]; exact upd_same), ?_⟩
    have ea : (l.map fun n => decide (n ∈ alpha)).all id = true := by
      rw [List.all_map, List.all_eq_true]
      intro n hn
      exact decide_eq_true (hl.sub n hn)
    rw [ea]
    exact q _ (same_new hD)
def spTwo (f : List Nat → List Nat → List Nat) : Sp := fun vs H Q _ => ∃ l k, vs = [.str (tx l), .str (tx k)] ∧ l.length ≤ 2000 ∧ Gives H Q (.str (tx (f l k)))
theorem ok_kept_signs {f : Addr} {fd : FuncData} (F : FnP K "kept_signs" "kept_signs" s_kept_signs f fd) : FnOk P w K mg base CX0 1 f fd ["signs", "others"] (spTwo fun l k => l.filter fun n => decide (n ∈ k)) := by
  have nd := sc_kept_signs.nd
  refine F.ok sc_kept_signs (fun vs H Q E h => ?_) (fun cdv A outer s H vs Q E hr h => ?_)
  · obtain ⟨l, k, rfl, _⟩ := h
    rfl
  · obtain ⟨l, k, rfl, hl, q⟩ := h
    refine ⟨_, PSs.nox (pss_one (ps_ret (pe_join pe_str (pe_lc (own := [("sign", 2)]) (g := gName 2) rfl nd (pi_str (pv 0)) (blkOk_by (N := ["signs", "others", "sign"]) (sc := defScope s_kept_signs) (by decide +kernel)) (fun _ _ _ _ _ => pg_name (i := 2) nd rfl (Or.inl rfl))
      (fun _ _ _ _ _ => pts_one (pt_cmpR op_in_sign (pv 2) (pv 1) rfl)) (fun _ _ _ _ _ => pv 2))))), ?_⟩
    exact join_tx (i := 2) (p := fun n => decide (n ∈ k)) rfl (Nat.le_trans hl (by decide)) (fun Q' z => ⟨_, rfl, z⟩) (fun _ => rfl) (fun _ => rfl) (fun n H2 Qb _ z => ⟨_, rfl, _, rfl, n, tx k, rfl, rfl, _, rfl, z⟩) q
theorem ok_other_signs {f : Addr} {fd : FuncData} (F : FnP K "other_signs" "other_signs" s_other_signs f fd) : FnOk P w K mg base CX0 1 f fd ["signs", "others"] (spTwo fun l k => l.filter fun n => !decide (n ∈ k)) := by
  have nd := sc_other_signs.nd
  refine F.ok sc_other_signs (fun vs H Q E h => ?_) (fun cdv A outer s H vs Q E hr h => ?_)
  · obtain ⟨l, k, rfl, _⟩ := h
    rfl
  · obtain ⟨l, k, rfl, hl, q⟩ := h
    refine ⟨_, PSs.nox (pss_one (ps_ret (pe_join pe_str (pe_lc (own := [("sign", 2)]) (g := gName 2) rfl nd (pi_str (pv 0)) (blkOk_by (N := ["signs", "others", "sign"]) (sc := defScope s_other_signs) (by decide +kernel)) (fun _ _ _ _ _ => pg_name (i := 2) nd rfl (Or.inl rfl))
      (fun _ _ _ _ _ => pts_one (pt_cmpR op_notIn_sign (pv 2) (pv 1) rfl)) (fun _ _ _ _ _ => pv 2))))), ?_⟩
    exact join_tx (i := 2) (p := fun n => !decide (n ∈ k)) rfl (Nat.le_trans hl (by decide)) (fun Q' z => ⟨_, rfl, z⟩) (fun _ => rfl) (fun _ => rfl) (fun n H2 Qb _ z => ⟨_, rfl, _, rfl, n, tx k, rfl, rfl, _, rfl, z⟩) q
/-- a new set of signs -/
def spInit (C : Addr) : Sp := fun vs H Q _ => ∃ p dx l, vs = [.ref p, .str (tx l)] ∧ H p = some (.ins C dx []) ∧ SgT l ∧ ∀ H', (∀ x o, H x = some o → x ≠ p → H' x = some o) → H' p = some (.ins C dx (flS (norm l))) → Q .non H'
theorem ok_init {f fT : Addr} {fd fdT : FuncData} (F : FunD K "__init__" "Signs.__init__" (defArgs s_Signs_init_) (defBody s_Signs_init_) (defScope s_Signs_init_) [.str ""] [] f fd) (T : Txt K mg C)
    (GT : FnOk P w K mg base CX0 1 fT fdT ["thing"] spText) (gT : mg "is_sign_text" = some (.ref fT)) (kT : PySem.W.keepIn K (.ref fT) = true) (bT : Binds K fdT ["thing"] []) : FnOk P w K mg base CX0 2 f fd ["self", "text"] (spInit C) := by
  have nd := sc_Signs_init_.nd
  refine F.ok sc_Signs_init_ (fun vs H Q E h => ?_) (fun cdv A outer s H vs Q E hr h => ?_)
  · obtain ⟨p, dx, l, rfl, _⟩ := h
    rfl
  · obtain ⟨p, dx, l, rfl, hp, hl, q⟩ := h
    obtain ⟨t, gS⟩ := T.sgn
    refine ⟨_, PSs.nox (pss_cons (ps_if (pt_not (pt_val (pe_call GT hr (by rfl) gT kT bT .nil pass0 (pa_cons (pv 1) pa_nil)))) (pss_one ps_never) pss_nil)
      (pss_one (ps_fld (pv 0) (pe_join pe_str (pe_lc (own := [("sign", 2)]) (g := gName 2) rfl nd (pi_str (pe_glob (v := .str (tx alpha)) rfl gS ⟨_, rfl⟩)) (blkOk_by (N := ["self", "text", "sign"]) (sc := defScope s_Signs_init_) (by decide +kernel)) (fun _ _ _ _ _ => pg_name (i := 2) nd rfl (Or.inl rfl))
      (fun _ _ _ _ _ => pts_one (pt_cmpR op_in_sign (pv 2) (pv 1) rfl)) (fun _ _ _ _ _ => pv 2))) rfl))), ?_⟩
    refine ⟨_, rfl, l, rfl, hl, fun H1 s1 => ⟨_, rfl, iteF ?_⟩⟩
    unfold tNext sFld
    dsimp only
    refine join_tx (i := 2) (p := fun n => decide (n ∈ l)) (l := alpha) rfl (by rw [alpha_len]; decide) (fun Q' z => z) (fun _ => rfl) (fun _ => rfl) (fun n H2 Qb _ z => ⟨_, rfl, _, rfl, n, tx l, rfl, rfl, _, rfl, z⟩) fun H2 s2 => ?_
    have hp2 := s2 _ _ (s1 _ _ hp)
    refine ⟨_, rfl, p, C, dx, _, rfl, hp2, T.cl, T.nS, (by show 0 < 1000; decide), ?_⟩
    refine q _ (fun x o e nx => ?_) upd_same
    rw [upd_ne nx]
    exact s2 _ _ (s1 _ _ e)
end
end K01

namespace K01
open PySem PySem.Spec PyProof.Rows L2 Tl
section
variable (P : Program) (w : World) (K : PySem.W.Frag) (mg : Str → Option Value) (base : Heap) (C : Addr)
/-- a def of the top that keeps its promise and can be called by its name -/
def Can (x : Str) (ps : List Str) (k : Nat) (sp : Sp) : Prop := ∃ f fd, FnOk P w K mg base CX0 k f fd ps sp ∧ mg x = some (.ref f) ∧ PySem.W.keepIn K (.ref f) = true ∧ Binds K fd ps []
/-- a method -/
def CanM (m : Str) (ps : List Str) (k : Nat) (sp : Sp) : Prop := ∃ f fd, FnOk P w K mg base CX0 k f fd ps sp ∧ Meth K C m f ∧ Binds K fd ps []
end
theorem opC {K : PySem.W.Frag} {C f : Addr} {m : Str} (M : Meth K C m f) : OpC K C m f := ⟨M.at_, M.fn⟩
theorem op_or {X : Cx} {g : Value → Value → Sem Value} {r1 r2 : R2} (h1 : OpR X g r1) (h2 : OpR X g r2) : OpR X g (fun x y H Q => r1 x y H Q ∨ r2 x y H Q) := fun pins s σ H x y v u Q I rx ry h => h.elim (h1 pins s σ H x y v u Q I rx ry) (h2 pins s σ H x y v u Q I rx ry)
section
variable {P : Program} {w : World} {K : PySem.W.Frag} {mg : Str → Option Value} {base : Heap} {C : Addr}
/-- how Signs(..) is made -/
def CanMk (P : Program) (w : World) (K : PySem.W.Frag) (mg : Str → Option Value) (base : Heap) (C : Addr) : Prop := ∃ f fd, Mk K C f ∧ FnOk P w K mg base CX0 2 f fd ["self", "text"] (spInit C) ∧ Binds K fd ["self", "text"] [] ∧ ∃ ds, Vals [.str ""] ds ∧ Binds K fd ["self", "text"] ds
/-- a new set of the signs S, beside a heap in which all stands as it stood -/
abbrev GivesSg (C : Addr) (H : Hp) (Q : VK) (S : List Nat) : Prop := ∀ (r : Addr) (H' : Hp), Same H H' → H r = none → Sg C H' r S → Q (.ref r) H'
/-- what the making of Signs(text) asks -/
theorem make_rd {H : Hp} {Q : VK} {l : List Nat} (hl : SgT l) (q : GivesSg C H Q (norm l)) : ∀ x dx, H x = none → H dx = none → dx ≠ x → spInit C (.ref x :: ([.str (tx l)] ++ [])) (upd (upd H dx (.own x)) x (.ins C dx [])) (fun v H2 => v = .non ∧ Q (.ref x) H2) E0 := by
  intro x dx hx hdx ne
  refine ⟨x, dx, l, rfl, upd_same, hl, fun H' k e => ⟨rfl, q x H' (fun b o z => k b o ?_ (ne_of_none z hx)) hx ⟨⟨dx, e⟩, norm_norm l⟩⟩⟩
  rw [upd_ne (ne_of_none z hx), upd_ne (ne_of_none z hdx)]
  exact z
def spOf (C : Addr) : Sp := fun vs H Q _ => ∃ x S, vs = [x] ∧ Opd C H x S ∧ Gives H Q (.str (tx S))
theorem ok_signs_of {f : Addr} {fd : FuncData} (F : FnP K "signs_of" "signs_of" s_signs_of f fd) (T : Txt K mg C) (M : CanMk P w K mg base C) : FnOk P w K mg base CX0 4 f fd ["thing"] (spOf C) := by
  obtain ⟨fI, fdI, MI, GI, bI, _⟩ := M
  have nd := sc_signs_of.nd
  refine F.ok sc_signs_of (fun vs H Q E h => ?_) (fun cdv A outer s H vs Q E hr h => ?_)
  · obtain ⟨x, S, rfl, _⟩ := h
    rfl
  · obtain ⟨x, S, rfl, hx, q⟩ := h
    refine ⟨_, PSs.nox (pss_cons (ps_if (pt_val (pe_callB call_isi (by rfl) T.isi (by decide +kernel) (pa_cons (pv 0) (pa_cons (pe_glob (v := .ref C) rfl T.gC rfl) pa_nil)))) (pss_one (ps_ret (pe_fld (pv 0) rfl))) pss_nil)
      (pss_one (ps_ret (pe_fld (pe_make MI GI hr (by rfl) T.gC bI .nil pass0 (pa_cons (pv 0) pa_nil)) rfl)))), ?_⟩
    rcases hx with ⟨a, rfl, hS⟩ | ⟨l, rfl, hl, rfl⟩
    · refine ⟨_, rfl, _, _, _, _, true, rfl, .own C, T.ty hS, T.kOwn, true, rfl, iteT ?_⟩
      obtain ⟨⟨dx, e⟩, _⟩ := id hS
      exact ⟨_, rfl, a, C, dx, _, _, rfl, e, T.cl, T.nS, flS_signs S, q H fun _ _ z => z⟩
    · refine ⟨_, rfl, _, _, _, _, false, rfl, .own C, .base (.str _), T.kStr, false, rfl, iteF ?_⟩
      refine ⟨_, rfl, ?_⟩
      refine fun r dx hr0 hdx ne => ⟨r, dx, l, rfl, upd_same, hl, fun H' k e => ⟨rfl, r, C, dx, _, _, rfl, e, T.cl, T.nS, flS_signs _, q H' fun b o z => k b o ?_ (ne_of_none z hr0)⟩⟩
      rw [upd_ne (ne_of_none z hr0), upd_ne (ne_of_none z hdx)]
      exact z
/-- a method of one operand -/
def spOp (C : Addr) (f : List Nat → List Nat → List Nat) : Sp := fun vs H Q _ => ∃ a x S U, vs = [.ref a, x] ∧ Sg C H a S ∧ Opd C H x U ∧ GivesSg C H Q (f S U)
def fOr (S U : List Nat) : List Nat := norm (S ++ U)
def fAnd (S U : List Nat) : List Nat := S.filter fun n => decide (n ∈ U)
def fSub (S U : List Nat) : List Nat := S.filter fun n => !decide (n ∈ U)
theorem sgT_app {l k : List Nat} (hl : ∀ n ∈ l, n ∈ alpha) (hk : ∀ n ∈ k, n ∈ alpha) (h : l.length + k.length ≤ 2000) : SgT (l ++ k) := ⟨fun n hn => (List.mem_append.mp hn).elim (hl n) (hk n), by rw [List.length_append]; exact h⟩
theorem sgT_filter {l : List Nat} {p : Nat → Bool} (hl : ∀ n ∈ l, n ∈ alpha) (h : l.length ≤ 2000) : SgT (l.filter p) := ⟨fun n hn => hl n (List.mem_filter.mp hn).1, Nat.le_trans (List.length_filter_le _ _) h⟩
theorem filter_can {S : List Nat} {p : Nat → Bool} (h : norm S = S) : norm (S.filter p) = S.filter p := by
  have e := norm_filter S p
  rw [h] at e
  exact e.symm
theorem ok_or {f : Addr} {fd : FuncData} (F : FnP K "__or__" "Signs.__or__" s_Signs_or_ f fd) (T : Txt K mg C) (M : CanMk P w K mg base C) (O : Can P w K mg base "signs_of" ["thing"] 4 (spOf C)) : FnOk P w K mg base CX0 5 f fd ["self", "other"] (spOp C fOr) := by
  obtain ⟨fI, fdI, MI, GI, bI, _⟩ := M
  obtain ⟨fO, fdO, GO, gO, kO, bO⟩ := O
  have nd := sc_Signs_or_.nd
  refine F.ok sc_Signs_or_ (fun vs H Q E h => ?_) (fun cdv A outer s H vs Q E hr h => ?_)
  · obtain ⟨a, x, S, U, rfl, _⟩ := h
    rfl
  · obtain ⟨a, x, S, U, rfl, hS, hU, q⟩ := h
    refine ⟨_, PSs.nox (pss_one (ps_ret (pe_make MI GI (hr.mono (by decide)) (by rfl) T.gC bI .nil pass0 (pa_cons (pe_op op_add_str (pe_fld (pv 0) rfl) (pe_call GO hr (by rfl) gO kO bO .nil pass0 (pa_cons (pv 1) pa_nil))) pa_nil)))), ?_⟩
    obtain ⟨⟨dx, e⟩, _⟩ := id hS
    refine ⟨_, rfl, a, C, dx, _, _, rfl, e, T.cl, T.nS, flS_signs S, _, rfl, x, U, rfl, hU, fun H1 s1 => ?_⟩
    have l1 := hS.len
    have l2 := hU.len
    refine ⟨_, _, rfl, rfl, line_small (by rw [len_tx, len_tx]; omega), ?_⟩
    have ea : (tx S ++ tx U) = tx (S ++ U) := tx_app S U
    rw [ea]
    exact make_rd (sgT_app hS.sub hU.sub (by omega)) fun r H' s2 hr0 z => q r H' (s1.trans s2) (s1.free hr0) z
theorem ok_and {f : Addr} {fd : FuncData} (F : FnP K "__and__" "Signs.__and__" s_Signs_and_ f fd) (T : Txt K mg C) (M : CanMk P w K mg base C) (O : Can P w K mg base "signs_of" ["thing"] 4 (spOf C))
    (Kp : Can P w K mg base "kept_signs" ["signs", "others"] 1 (spTwo fAnd)) : FnOk P w K mg base CX0 5 f fd ["self", "other"] (spOp C fAnd) := by
  obtain ⟨fI, fdI, MI, GI, bI, _⟩ := M
  obtain ⟨fO, fdO, GO, gO, kO, bO⟩ := O
  obtain ⟨fK, fdK, GK, gK, kK, bK⟩ := Kp
  have nd := sc_Signs_and_.nd
  refine F.ok sc_Signs_and_ (fun vs H Q E h => ?_) (fun cdv A outer s H vs Q E hr h => ?_)
  · obtain ⟨a, x, S, U, rfl, _⟩ := h
    rfl
  · obtain ⟨a, x, S, U, rfl, hS, hU, q⟩ := h
    refine ⟨_, PSs.nox (pss_one (ps_ret (pe_make MI GI (hr.mono (by decide)) (by rfl) T.gC bI .nil pass0 (pa_cons (pe_call GK (hr.mono (by decide)) (by rfl) gK kK bK .nil pass0 (pa_cons (pe_fld (pv 0) rfl) (pa_cons (pe_call GO hr (by rfl) gO kO bO .nil pass0 (pa_cons (pv 1) pa_nil)) pa_nil))) pa_nil)))), ?_⟩
    obtain ⟨⟨dx, e⟩, _⟩ := id hS
    have l1 := hS.len
    refine ⟨_, rfl, a, C, dx, _, _, rfl, e, T.cl, T.nS, flS_signs S, _, rfl, x, U, rfl, hU, fun H1 s1 => ?_⟩
    refine ⟨S, U, rfl, by omega, fun H2 s2 => ?_⟩
    refine make_rd (l := fAnd S U) (sgT_filter hS.sub (by omega)) fun r H' s3 hr0 z => q r H' ((s1.trans s2).trans s3) ((s1.trans s2).free hr0) ?_
    rw [show norm (fAnd S U) = fAnd S U from filter_can hS.can] at z
    exact z
theorem ok_sub {f : Addr} {fd : FuncData} (F : FnP K "__sub__" "Signs.__sub__" s_Signs_sub_ f fd) (T : Txt K mg C) (M : CanMk P w K mg base C) (O : Can P w K mg base "signs_of" ["thing"] 4 (spOf C))
    (Ot : Can P w K mg base "other_signs" ["signs", "others"] 1 (spTwo fSub)) : FnOk P w K mg base CX0 5 f fd ["self", "other"] (spOp C fSub) := by
  obtain ⟨fI, fdI, MI, GI, bI, _⟩ := M
  obtain ⟨fO, fdO, GO, gO, kO, bO⟩ := O
  obtain ⟨fK, fdK, GK, gK, kK, bK⟩ := Ot
  have nd := sc_Signs_sub_.nd
  refine F.ok sc_Signs_sub_ (fun vs H Q E h => ?_) (fun cdv A outer s H vs Q E hr h => ?_)
  · obtain ⟨a, x, S, U, rfl, _⟩ := h
    rfl
  · obtain ⟨a, x, S, U, rfl, hS, hU, q⟩ := h
    refine ⟨_, PSs.nox (pss_one (ps_ret (pe_make MI GI (hr.mono (by decide)) (by rfl) T.gC bI .nil pass0 (pa_cons (pe_call GK (hr.mono (by decide)) (by rfl) gK kK bK .nil pass0 (pa_cons (pe_fld (pv 0) rfl) (pa_cons (pe_call GO hr (by rfl) gO kO bO .nil pass0 (pa_cons (pv 1) pa_nil)) pa_nil))) pa_nil)))), ?_⟩
    obtain ⟨⟨dx, e⟩, _⟩ := id hS
    have l1 := hS.len
    refine ⟨_, rfl, a, C, dx, _, _, rfl, e, T.cl, T.nS, flS_signs S, _, rfl, x, U, rfl, hU, fun H1 s1 => ?_⟩
    refine ⟨S, U, rfl, by omega, fun H2 s2 => ?_⟩
    refine make_rd (l := fSub S U) (sgT_filter hS.sub (by omega)) fun r H' s3 hr0 z => q r H' ((s1.trans s2).trans s3) ((s1.trans s2).free hr0) ?_
    rw [show norm (fSub S U) = fSub S U from filter_can hS.can] at z
    exact z
theorem ok_rsub {f : Addr} {fd : FuncData} (F : FnP K "__rsub__" "Signs.__rsub__" s_Signs_rsub_ f fd) (T : Txt K mg C) (M : CanMk P w K mg base C) (O : Can P w K mg base "signs_of" ["thing"] 4 (spOf C))
    (Ot : Can P w K mg base "other_signs" ["signs", "others"] 1 (spTwo fSub)) : FnOk P w K mg base CX0 5 f fd ["self", "other"] (spOp C fun S U => fSub U S) := by
  obtain ⟨fI, fdI, MI, GI, bI, _⟩ := M
  obtain ⟨fO, fdO, GO, gO, kO, bO⟩ := O
  obtain ⟨fK, fdK, GK, gK, kK, bK⟩ := Ot
  have nd := sc_Signs_rsub_.nd
  refine F.ok sc_Signs_rsub_ (fun vs H Q E h => ?_) (fun cdv A outer s H vs Q E hr h => ?_)
  · obtain ⟨a, x, S, U, rfl, _⟩ := h
    rfl
  · obtain ⟨a, x, S, U, rfl, hS, hU, q⟩ := h
    refine ⟨_, PSs.nox (pss_one (ps_ret (pe_make MI GI (hr.mono (by decide)) (by rfl) T.gC bI .nil pass0 (pa_cons (pe_call GK (hr.mono (by decide)) (by rfl) gK kK bK .nil pass0 (pa_cons (pe_call GO hr (by rfl) gO kO bO .nil pass0 (pa_cons (pv 1) pa_nil)) (pa_cons (pe_fld (pv 0) rfl) pa_nil))) pa_nil)))), ?_⟩
    have l1 := hU.len
    refine ⟨_, rfl, x, U, rfl, hU, fun H1 s1 => ?_⟩
    have hS1 : Sg C H1 a S := hS.at fun o z => s1 _ _ z
    obtain ⟨⟨dx, e⟩, _⟩ := id hS1
    refine ⟨_, rfl, a, C, dx, _, _, rfl, e, T.cl, T.nS, flS_signs S, ?_⟩
    refine ⟨U, S, rfl, by omega, fun H2 s2 => ?_⟩
    refine make_rd (l := fSub U S) (sgT_filter hU.sub (by omega)) fun r H' s3 hr0 z => q r H' ((s1.trans s2).trans s3) ((s1.trans s2).free hr0) ?_
    rw [show norm (fSub U S) = fSub U S from filter_can hU.can] at z
    exact z
def spInv (C : Addr) : Sp := fun vs H Q _ => ∃ a S, vs = [.ref a] ∧ Sg C H a S ∧ GivesSg C H Q (fSub alpha S)
theorem alpha_can : norm alpha = alpha := by decide +kernel
theorem ok_inv {f : Addr} {fd : FuncData} (F : FnP K "__invert__" "Signs.__invert__" s_Signs_invert_ f fd) (T : Txt K mg C) (M : CanMk P w K mg base C)
    (Ot : Can P w K mg base "other_signs" ["signs", "others"] 1 (spTwo fSub)) : FnOk P w K mg base CX0 5 f fd ["self"] (spInv C) := by
  obtain ⟨fI, fdI, MI, GI, bI, _⟩ := M
  obtain ⟨fK, fdK, GK, gK, kK, bK⟩ := Ot
  obtain ⟨t, gS⟩ := T.sgn
  have nd := sc_Signs_invert_.nd
  refine F.ok sc_Signs_invert_ (fun vs H Q E h => ?_) (fun cdv A outer s H vs Q E hr h => ?_)
  · obtain ⟨a, S, rfl, _⟩ := h
    rfl
  · obtain ⟨a, S, rfl, hS, q⟩ := h
    refine ⟨_, PSs.nox (pss_one (ps_ret (pe_make MI GI (hr.mono (by decide)) (by rfl) T.gC bI .nil pass0 (pa_cons (pe_call GK (hr.mono (by decide)) (by rfl) gK kK bK .nil pass0 (pa_cons (pe_glob (v := .str (tx alpha)) rfl gS ⟨_, rfl⟩) (pa_cons (pe_fld (pv 0) rfl) pa_nil))) pa_nil)))), ?_⟩
    obtain ⟨⟨dx, e⟩, _⟩ := id hS
    refine ⟨_, rfl, a, C, dx, _, _, rfl, e, T.cl, T.nS, flS_signs S, ?_⟩
    refine ⟨alpha, S, rfl, by rw [alpha_len]; decide, fun H2 s2 => ?_⟩
    refine make_rd (l := fSub alpha S) (sgT_filter (fun _ z => z) (by rw [alpha_len]; decide)) fun r H' s3 hr0 z => q r H' (s2.trans s3) (s2.free hr0) ?_
    rw [show norm (fSub alpha S) = fSub alpha S from filter_can alpha_can] at z
    exact z
end
end K01

namespace K01
open PySem PySem.Spec PyProof.Rows L2 Tl
theorem opD {K : PySem.W.Frag} {C f : Addr} {m n : Str} (M : Meth K C m f) (e : n = m := by decide +kernel) : OpC K C n f := by
  rw [e]
  exact ⟨M.at_, M.fn⟩
theorem atD {K : PySem.W.Frag} {C f : Addr} {m n : Str} (M : Meth K C m f) (e : n = m := by decide +kernel) : PySem.W.findIn K (.ref C) n = some (some (.ref f)) := by
  rw [e]
  exact M.at_
theorem addr_ex (g : Addr) : (some (Value.ref g) : Option Value) = none ∨ ∃ g' : Addr, some (Value.ref g) = some (.ref g') := .inr ⟨g, rfl⟩
section
variable {P : Program} {w : World} {K : PySem.W.Frag} {mg : Str → Option Value} {base : Heap} {C : Addr}
theorem Txt.s1 (T : Txt K mg C) {m : String} (h : m ∈ ["or", "and", "sub"]) {n : Str} (e : n = PySem.dunder m := by rfl) : PySem.W.findIn K (.type "str") n = some none := by
  rw [e]
  exact (T.opStr m h).1
theorem Txt.s2 (T : Txt K mg C) {m : String} (h : m ∈ ["or", "and", "sub"]) {n : Str} (e : n = PySem.dunderR m := by rfl) : PySem.W.findIn K (.type "str") n = some none := by
  rw [e]
  exact (T.opStr m h).2
/-- a method whose operand is a text -/
def spOpT (C : Addr) (f : List Nat → List Nat → List Nat) : Sp := fun vs H Q _ => ∃ a l S, vs = [.ref a, .str (tx l)] ∧ Sg C H a S ∧ SgT l ∧ GivesSg C H Q (f S (norm l))
theorem ok_ror {f : Addr} {fd : FuncData} (F : FnP K "__ror__" "Signs.__ror__" s_Signs_ror_ f fd) (T : Txt K mg C) (M : CanM P w K mg base C "__or__" ["self", "other"] 5 (spOp C fOr)) (R : ∃ g, Meth K C "__ror__" g) :
    FnOk P w K mg base CX0 6 f fd ["self", "other"] (spOpT C fOr) := by
  obtain ⟨fO, fdO, GO, MO, bO⟩ := M
  obtain ⟨g, MR⟩ := R
  have nd := sc_Signs_ror_.nd
  refine F.ok sc_Signs_ror_ (fun vs H Q E h => ?_) (fun cdv A outer s H vs Q E hr h => ?_)
  · obtain ⟨a, l, S, rfl, _⟩ := h
    rfl
  · obtain ⟨a, l, S, rfl, hS, hl, q⟩ := h
    refine ⟨_, PSs.nox (pss_one (ps_ret (pe_op (op_binS (E := E0) (op := .BitOr) T.first (opD MO) (atD MR) (addr_ex g) (T.s1 (m := "or") (by decide)) (T.s2 (m := "or") (by decide)) T.sStr GO hr bO pass0) (pv 0) (pv 1)))), ?_⟩
    obtain ⟨⟨dx, e⟩, _⟩ := id hS
    exact ⟨_, rfl, _, rfl, a, dx, _, _, rfl, rfl, e, a, _, S, norm l, rfl, hS, .inr ⟨l, rfl, hl, rfl⟩, q⟩
theorem ok_ior {f : Addr} {fd : FuncData} (F : FnP K "__ior__" "Signs.__ior__" s_Signs_ior_ f fd) (T : Txt K mg C) (M : CanM P w K mg base C "__or__" ["self", "other"] 5 (spOp C fOr)) (R : ∃ g, Meth K C "__ror__" g) :
    FnOk P w K mg base CX0 6 f fd ["self", "other"] (spOpT C fOr) := by
  obtain ⟨fO, fdO, GO, MO, bO⟩ := M
  obtain ⟨g, MR⟩ := R
  have nd := sc_Signs_ior_.nd
  refine F.ok sc_Signs_ior_ (fun vs H Q E h => ?_) (fun cdv A outer s H vs Q E hr h => ?_)
  · obtain ⟨a, l, S, rfl, _⟩ := h
    rfl
  · obtain ⟨a, l, S, rfl, hS, hl, q⟩ := h
    refine ⟨_, PSs.nox (pss_one (ps_ret (pe_op (op_binS (E := E0) (op := .BitOr) T.first (opD MO) (atD MR) (addr_ex g) (T.s1 (m := "or") (by decide)) (T.s2 (m := "or") (by decide)) T.sStr GO hr bO pass0) (pv 0) (pv 1)))), ?_⟩
    obtain ⟨⟨dx, e⟩, _⟩ := id hS
    exact ⟨_, rfl, _, rfl, a, dx, _, _, rfl, rfl, e, a, _, S, norm l, rfl, hS, .inr ⟨l, rfl, hl, rfl⟩, q⟩
theorem ok_rand {f : Addr} {fd : FuncData} (F : FnP K "__rand__" "Signs.__rand__" s_Signs_rand_ f fd) (T : Txt K mg C) (M : CanM P w K mg base C "__and__" ["self", "other"] 5 (spOp C fAnd)) (R : ∃ g, Meth K C "__rand__" g) :
    FnOk P w K mg base CX0 6 f fd ["self", "other"] (spOpT C fAnd) := by
  obtain ⟨fO, fdO, GO, MO, bO⟩ := M
  obtain ⟨g, MR⟩ := R
  have nd := sc_Signs_rand_.nd
  refine F.ok sc_Signs_rand_ (fun vs H Q E h => ?_) (fun cdv A outer s H vs Q E hr h => ?_)
  · obtain ⟨a, l, S, rfl, _⟩ := h
    rfl
  · obtain ⟨a, l, S, rfl, hS, hl, q⟩ := h
    refine ⟨_, PSs.nox (pss_one (ps_ret (pe_op (op_binS (E := E0) (op := .BitAnd) T.first (opD MO) (atD MR) (addr_ex g) (T.s1 (m := "and") (by decide)) (T.s2 (m := "and") (by decide)) T.sStr GO hr bO pass0) (pv 0) (pv 1)))), ?_⟩
    obtain ⟨⟨dx, e⟩, _⟩ := id hS
    exact ⟨_, rfl, _, rfl, a, dx, _, _, rfl, rfl, e, a, _, S, norm l, rfl, hS, .inr ⟨l, rfl, hl, rfl⟩, q⟩
def spEq (C : Addr) : Sp := fun vs H Q _ => ∃ a b S U, vs = [.ref a, .ref b] ∧ Sg C H a S ∧ Sg C H b U ∧ Q (.bl (decide (S = U))) H
theorem ok_eq {f : Addr} {fd : FuncData} (F : FnP K "__eq__" "Signs.__eq__" s_Signs_eq_ f fd) (T : Txt K mg C) : FnOk P w K mg base CX0 1 f fd ["self", "other"] (spEq C) := by
  have nd := sc_Signs_eq_.nd
  refine F.ok sc_Signs_eq_ (fun vs H Q E h => ?_) (fun cdv A outer s H vs Q E hr h => ?_)
  · obtain ⟨a, b, S, U, rfl, _⟩ := h
    rfl
  · obtain ⟨a, b, S, U, rfl, hS, hU, q⟩ := h
    refine ⟨_, PSs.nox (pss_one (ps_ret (pe_and (pe_callB call_isi (by rfl) T.isi (by decide +kernel) (pa_cons (pv 1) (pa_cons (pe_glob (v := .ref C) rfl T.gC rfl) pa_nil))) (pe_one (pe_cmpR op_eq (pe_fld (pv 0) rfl) (pe_fld (pv 1) rfl) (nomark _)))))), ?_⟩
    obtain ⟨⟨dx, e⟩, _⟩ := id hS
    obtain ⟨⟨dy, e2⟩, _⟩ := id hU
    refine ⟨_, rfl, _, _, _, _, true, rfl, .own C, T.ty hU, T.kOwn, true, rfl, iteT ?_⟩
    refine ⟨_, rfl, a, C, dx, _, _, rfl, e, T.cl, T.nS, flS_signs S, _, rfl, b, C, dy, _, _, rfl, e2, T.cl, T.nS, flS_signs U, rfl, ?_⟩
    have ed : decide (V.str (tx S) = V.str (tx U)) = decide (S = U) := by
      rw [decide_eq_decide]
      exact ⟨fun z => tx_inj (V.str.inj z), fun z => by rw [z]⟩
    rw [ed]
    exact q
def spLen (C : Addr) : Sp := fun vs H Q _ => ∃ a S, vs = [.ref a] ∧ Sg C H a S ∧ Q (.int S.length) H
theorem ok_len {f : Addr} {fd : FuncData} (F : FnP K "__len__" "Signs.__len__" s_Signs_len_ f fd) (T : Txt K mg C) : FnOk P w K mg base CX0 1 f fd ["self"] (spLen C) := by
  have nd := sc_Signs_len_.nd
  refine F.ok sc_Signs_len_ (fun vs H Q E h => ?_) (fun cdv A outer s H vs Q E hr h => ?_)
  · obtain ⟨a, S, rfl, _⟩ := h
    rfl
  · obtain ⟨a, S, rfl, hS, q⟩ := h
    refine ⟨_, PSs.nox (pss_one (ps_ret (pe_callB call_len_str (by rfl) T.len PySem.boot_len (pa_cons (pe_fld (pv 0) rfl) pa_nil)))), ?_⟩
    obtain ⟨⟨dx, e⟩, _⟩ := id hS
    have l1 := hS.len
    exact ⟨_, rfl, a, C, dx, _, _, rfl, e, T.cl, T.nS, flS_signs S, tx S, rfl, line_small (by rw [len_tx]; omega), q⟩
def spBool (C : Addr) : Sp := fun vs H Q _ => ∃ a S, vs = [.ref a] ∧ Sg C H a S ∧ Q (.bl (!S.isEmpty)) H
theorem ok_bool {f : Addr} {fd : FuncData} (F : FnP K "__bool__" "Signs.__bool__" s_Signs_bool_ f fd) (T : Txt K mg C) : FnOk P w K mg base CX0 1 f fd ["self"] (spBool C) := by
  have nd := sc_Signs_bool_.nd
  refine F.ok sc_Signs_bool_ (fun vs H Q E h => ?_) (fun cdv A outer s H vs Q E hr h => ?_)
  · obtain ⟨a, S, rfl, _⟩ := h
    rfl
  · obtain ⟨a, S, rfl, hS, q⟩ := h
    refine ⟨_, PSs.nox (pss_one (ps_ret (pe_callTy call_boolTx (by rfl) T.bool (by decide +kernel) (pa_cons (pe_fld (pv 0) rfl) pa_nil)))), ?_⟩
    obtain ⟨⟨dx, e⟩, _⟩ := id hS
    have l1 := hS.len
    exact ⟨_, rfl, a, C, dx, _, _, rfl, e, T.cl, T.nS, flS_signs S, S, rfl, by omega, q⟩
def spIsSign : Sp := fun vs H Q _ => ∃ n, vs = [.str (sg n)] ∧ n ∈ alpha ∧ Q (.bl true) H
theorem ok_is_sign {f : Addr} {fd : FuncData} (F : FnP K "is_sign" "is_sign" s_is_sign f fd) (T : Txt K mg C) : FnOk P w K mg base CX0 1 f fd ["thing"] spIsSign := by
  have nd := sc_is_sign.nd
  obtain ⟨t, gS⟩ := T.sgn
  refine F.ok sc_is_sign (fun vs H Q E h => ?_) (fun cdv A outer s H vs Q E hr h => ?_)
  · obtain ⟨n, rfl, _⟩ := h
    rfl
  · obtain ⟨n, rfl, hn, q⟩ := h
    refine ⟨_, PSs.nox (pss_one (ps_ret (pe_and (pe_callB call_isi (by rfl) T.isi (by decide +kernel) (pa_cons (pv 0) (pa_cons (pe_bltn (v := .ty "str") (by rfl) T.str (by decide +kernel) rfl) pa_nil)))
      (pe_and (pe_cmpR op_eq (pe_callB call_len_str (by rfl) T.len PySem.boot_len (pa_cons (pv 0) pa_nil)) pe_int (nomark _)) (pe_one (pe_cmpR op_in_sign (pv 0) (pe_glob (v := .str (tx alpha)) rfl gS ⟨_, rfl⟩) rfl)))))), ?_⟩
    refine ⟨_, rfl, _, _, _, _, true, rfl, .ty "str", .base (.str _), kit_ty (by decide +kernel), true, rfl, iteT ?_⟩
    refine ⟨_, rfl, sg n, rfl, line_small (by show 1 ≤ 16777216; decide), rfl, true, rfl, iteT ?_⟩
    refine ⟨_, rfl, n, tx alpha, rfl, rfl, ?_⟩
    have ed : decide (n ∈ (tx alpha).cps.toList) = true := decide_eq_true hn
    rw [ed]
    exact q
def spHas (C : Addr) : Sp := fun vs H Q _ => ∃ a S n, vs = [.ref a, .str (sg n)] ∧ Sg C H a S ∧ n ∈ alpha ∧ Q (.bl (decide (n ∈ S))) H
theorem ok_contains {f : Addr} {fd : FuncData} (F : FnP K "__contains__" "Signs.__contains__" s_Signs_contains_ f fd) (T : Txt K mg C) (I : Can P w K mg base "is_sign" ["thing"] 1 spIsSign) : FnOk P w K mg base CX0 2 f fd ["self", "x"] (spHas C) := by
  have nd := sc_Signs_contains_.nd
  obtain ⟨fI, fdI, GI, gI, kI, bI⟩ := I
  refine F.ok sc_Signs_contains_ (fun vs H Q E h => ?_) (fun cdv A outer s H vs Q E hr h => ?_)
  · obtain ⟨a, S, n, rfl, _⟩ := h
    rfl
  · obtain ⟨a, S, n, rfl, hS, hn, q⟩ := h
    refine ⟨_, PSs.nox (pss_one (ps_ret (pe_and (pe_call GI hr (by rfl) gI kI bI .nil pass0 (pa_cons (pv 1) pa_nil)) (pe_one (pe_cmpR op_in_sign (pv 1) (pe_fld (pv 0) rfl) rfl))))), ?_⟩
    obtain ⟨⟨dx, e⟩, _⟩ := id hS
    exact ⟨_, rfl, n, rfl, hn, true, rfl, iteT ⟨_, rfl, _, rfl, a, C, dx, _, _, rfl, e, T.cl, T.nS, flS_signs S, n, tx S, rfl, rfl, q⟩⟩
def spWithin (C : Addr) : Sp := fun vs H Q _ => ∃ a x S U, vs = [.ref a, x] ∧ Sg C H a S ∧ Opd C H x U ∧ Gives H Q (.bl (decide (fSub S U = [])))
theorem ok_within {f : Addr} {fd : FuncData} (F : FnP K "within" "Signs.within" s_Signswithin f fd) (T : Txt K mg C) (O : Can P w K mg base "signs_of" ["thing"] 4 (spOf C))
    (Ot : Can P w K mg base "other_signs" ["signs", "others"] 1 (spTwo fSub)) : FnOk P w K mg base CX0 5 f fd ["self", "other"] (spWithin C) := by
  obtain ⟨fO, fdO, GO, gO, kO, bO⟩ := O
  obtain ⟨fK, fdK, GK, gK, kK, bK⟩ := Ot
  have nd := sc_Signswithin.nd
  refine F.ok sc_Signswithin (fun vs H Q E h => ?_) (fun cdv A outer s H vs Q E hr h => ?_)
  · obtain ⟨a, x, S, U, rfl, _⟩ := h
    rfl
  · obtain ⟨a, x, S, U, rfl, hS, hU, q⟩ := h
    refine ⟨_, PSs.nox (pss_one (ps_ret (pe_cmpR op_eq (pe_call GK (hr.mono (by decide)) (by rfl) gK kK bK .nil pass0 (pa_cons (pe_fld (pv 0) rfl) (pa_cons (pe_call GO hr (by rfl) gO kO bO .nil pass0 (pa_cons (pv 1) pa_nil)) pa_nil))) pe_str (nomark _)))), ?_⟩
    obtain ⟨⟨dx, e⟩, _⟩ := id hS
    have l1 := hS.len
    refine ⟨_, rfl, a, C, dx, _, _, rfl, e, T.cl, T.nS, flS_signs S, _, rfl, x, U, rfl, hU, fun H1 s1 => ?_⟩
    refine ⟨S, U, rfl, by omega, fun H2 s2 => ⟨rfl, ?_⟩⟩
    have ed : decide (V.str (tx (fSub S U)) = V.str (tx [])) = decide (fSub S U = []) := by
      rw [decide_eq_decide]
      exact ⟨fun z => tx_inj (V.str.inj z), fun z => by rw [z]⟩
    have q2 := q H2 (s1.trans s2)
    rw [← ed] at q2
    exact q2
def spLeast (C : Addr) : Sp := fun vs H Q _ => ∃ a n S, vs = [.ref a] ∧ Sg C H a (n :: S) ∧ Q (.str (sg n)) H
theorem ok_least {f : Addr} {fd : FuncData} (F : FnP K "least" "Signs.least" s_Signsleast f fd) (T : Txt K mg C) : FnOk P w K mg base CX0 1 f fd ["self"] (spLeast C) := by
  have nd := sc_Signsleast.nd
  refine F.ok sc_Signsleast (fun vs H Q E h => ?_) (fun cdv A outer s H vs Q E hr h => ?_)
  · obtain ⟨a, n, S, rfl, _⟩ := h
    rfl
  · obtain ⟨a, n, S, rfl, hS, q⟩ := h
    refine ⟨_, PSs.nox (pss_cons (ps_if (pt_cmpR op_eq (pe_fld (pv 0) rfl) pe_str (nomark _)) (pss_one ps_never) pss_nil) (pss_one (ps_ret (pe_ix ix_str (pe_fld (pv 0) rfl) pe_int (fun _ _ => rfl))))), ?_⟩
    obtain ⟨⟨dx, e⟩, _⟩ := id hS
    have l1 := hS.len
    refine ⟨_, rfl, a, C, dx, _, _, rfl, e, T.cl, T.nS, flS_signs _, rfl, _, rfl, ?_⟩
    have ed : decide (V.str (tx (n :: S)) = V.str (tx [])) = false := decide_eq_false fun z => by cases tx_inj (V.str.inj z)
    show if decide (V.str (tx (n :: S)) = V.str (tx [])) = true then _ else _
    rw [ed]
    refine iteF ?_
    exact ⟨_, rfl, a, C, dx, _, _, rfl, e, T.cl, T.nS, flS_signs _, tx (n :: S), 0, n, rfl, rfl, line_small (by rw [len_tx]; omega), atI_nat (j := 0) rfl, q⟩
def spSpelled (C : Addr) : Sp := fun vs H Q _ => ∃ a S, vs = [.ref a] ∧ Sg C H a S ∧ Q (.str (tx S)) H
theorem ok_spelled {f : Addr} {fd : FuncData} (F : FnP K "spelled" "Signs.spelled" s_Signsspelled f fd) (T : Txt K mg C) : FnOk P w K mg base CX0 1 f fd ["self"] (spSpelled C) := by
  have nd := sc_Signsspelled.nd
  refine F.ok sc_Signsspelled (fun vs H Q E h => ?_) (fun cdv A outer s H vs Q E hr h => ?_)
  · obtain ⟨a, S, rfl, _⟩ := h
    rfl
  · obtain ⟨a, S, rfl, hS, q⟩ := h
    refine ⟨_, PSs.nox (pss_one (ps_ret (pe_fld (pv 0) rfl))), ?_⟩
    obtain ⟨⟨dx, e⟩, _⟩ := id hS
    exact ⟨_, rfl, a, C, dx, _, _, rfl, e, T.cl, T.nS, flS_signs S, q⟩
end
end K01

namespace K01
open PySem PySem.Spec PyProof.Rows L2 Tl
/-! ### an ascending row of signs is told by its members -/
theorem sorted_sg : ∀ (ns : List Nat), sortedS (ns.map sg) = true → ns.Pairwise (· ≤ ·) := by
  have step : ∀ (ns : List Nat) (m : Nat), risingS (sg m) (ns.map sg) = true → (m :: ns).Pairwise (· ≤ ·) := by
    intro ns
    induction ns with
    | nil => intro m _; exact List.pairwise_singleton _ _
    | cons n ns ih =>
      intro m h
      have h2 : (!ltCps (sg n).cps.toList (sg m).cps.toList && risingS (sg n) (ns.map sg)) = true := h
      obtain ⟨h3, h4⟩ := Bool.and_eq_true_iff.mp h2
      have p := ih n h4
      have h5 : m ≤ n := by
        refine Nat.le_of_not_lt fun z => ?_
        have e : ltCps (sg n).cps.toList (sg m).cps.toList = true := by
          show ltCps [n] [m] = true
          simp [ltCps, z]
        rw [e] at h3
        cases h3
      refine List.pairwise_cons.mpr ⟨fun k hk => ?_, p⟩
      rcases List.mem_cons.mp hk with e | e
      · rw [e]
        exact h5
      · exact Nat.le_trans h5 ((List.pairwise_cons.mp p).1 k e)
  intro ns h
  cases ns with
  | nil => exact List.Pairwise.nil
  | cons n ns => exact step ns n h
theorem le_uniq : ∀ (l k : List Nat), l.Pairwise (· < ·) → k.Pairwise (· < ·) → (∀ n, n ∈ l ↔ n ∈ k) → l = k
  | [], [], _, _, _ => rfl
  | [], y :: k, _, _, h => absurd ((h y).2 List.mem_cons_self) (by simp)
  | x :: l, [], _, _, h => absurd ((h x).1 List.mem_cons_self) (by simp)
  | x :: l, y :: k, hl, hk, h => by
    obtain ⟨l1, l2⟩ := List.pairwise_cons.mp hl
    obtain ⟨k1, k2⟩ := List.pairwise_cons.mp hk
    have e : x = y := by
      have a := (h x).1 List.mem_cons_self
      have b := (h y).2 List.mem_cons_self
      rcases List.mem_cons.mp a with e | e
      · exact e
      · rcases List.mem_cons.mp b with f | f
        · exact f.symm
        · have := k1 x e
          have := l1 y f
          omega
    subst e
    have t : l = k := le_uniq l k l2 k2 fun n => by
      constructor
      · intro z
        rcases List.mem_cons.mp ((h n).1 (List.mem_cons_of_mem _ z)) with e | e
        · have := l1 n z
          omega
        · exact e
      · intro z
        rcases List.mem_cons.mp ((h n).2 (List.mem_cons_of_mem _ z)) with e | e
        · have := k1 n z
          omega
        · exact e
    rw [t]
theorem alpha_lt : alpha.Pairwise (· < ·) := by decide +kernel
theorem norm_lt (l : List Nat) : (norm l).Pairwise (· < ·) := List.Pairwise.filter _ alpha_lt
theorem once_eq {l : List Nat} (hl : ∀ n ∈ l, n ∈ alpha) {ys : List Str} (h1 : sortedS ys = true) (h2 : ys.Nodup) (h3 : ∀ z, z ∈ ys ↔ z ∈ l.map sg) : ys = (norm l).map sg := by
  have e : ∃ ns : List Nat, ys = ns.map sg := by
    have : ∀ zs : List Str, (∀ z ∈ zs, z ∈ l.map sg) → ∃ ns : List Nat, zs = ns.map sg := by
      intro zs
      induction zs with
      | nil => intro _; exact ⟨[], rfl⟩
      | cons z zs ih =>
        intro h
        obtain ⟨ns, e⟩ := ih fun y hy => h y (List.mem_cons_of_mem _ hy)
        obtain ⟨n, _, en⟩ := List.mem_map.mp (h z List.mem_cons_self)
        exact ⟨n :: ns, by rw [e, ← en]; rfl⟩
    exact this ys fun z hz => (h3 z).1 hz
  obtain ⟨ns, rfl⟩ := e
  have nd : ns.Nodup := List.Pairwise.of_map sg (fun _ _ hne e => hne (congrArg sg e)) h2
  have hle := sorted_sg ns h1
  have hlt : ns.Pairwise (· < ·) := by
    refine List.Pairwise.imp₂ (fun a b x y => Nat.lt_of_le_of_ne x y) hle nd
  have e : ns = norm l := le_uniq ns (norm l) hlt (norm_lt l) fun n => by
    rw [mem_norm hl]
    constructor
    · intro z
      obtain ⟨m, hm, e⟩ := List.mem_map.mp ((h3 (sg n)).1 (List.mem_map.mpr ⟨n, z, rfl⟩))
      rw [← sg_inj e]
      exact hm
    · intro z
      obtain ⟨m, hm, e⟩ := List.mem_map.mp ((h3 (sg n)).2 (List.mem_map.mpr ⟨n, z, rfl⟩))
      rw [← sg_inj e]
      exact hm
  rw [e]
section
variable {P : Program} {w : World} {K : PySem.W.Frag} {mg : Str → Option Value} {base : Heap} {C : Addr}
/-- what len asks of a list or tuple -/
def rLenSeq (K : PySem.W.Frag) : List V → Hp → VK → Prop := fun xs H Q => ∃ p ys, xs = [V.ref p] ∧ (SqL K H p ys ∨ SqT K H p ys) ∧ Q (V.int (ys.length : Nat)) H
theorem yes_keep {σ : L2.St} {H : Hp} {Ya Na : Hp → Prop} (h : Ya H) : tYes σ H (fun b H3 => if b = true then Ya H3 else Na H3) := by
  show if true = true then Ya H else Na H
  rw [if_pos rfl]
  exact h
def spFlag : Sp := fun vs H Q _ => ∃ a d : Bool, vs = [.bl a, .bl d] ∧ Q (.bl (decide (a = d))) H
theorem ok_flag {f : Addr} {fd : FuncData} (F : FnP K "_law_flag" "_law_flag" s_l_flag f fd) : FnOk P w K mg base CX0 1 f fd ["_law_actual", "_law_due"] spFlag := by
  refine F.ok sc_l_flag (fun vs H Q E h => ?_) (fun cdv A outer s H vs Q E hr h => ?_)
  · obtain ⟨a, d, rfl, _⟩ := h
    rfl
  · obtain ⟨a, d, rfl, q⟩ := h
    refine ⟨_, PSs.nox (pss_cons (ps_if (pt_val (pv 1)) (pss_one (ps_ret (pe_cmpR op_is_bl (pv 0) pe_bl (nomark _)))) pss_nil) (pss_one (ps_ret (pe_cmpR op_is_bl (pv 0) pe_bl (nomark _))))), ?_⟩
    cases d with
    | true => exact ⟨_, rfl, true, rfl, iteT ⟨_, rfl, a, true, rfl, rfl, q⟩⟩
    | false => exact ⟨_, rfl, false, rfl, iteF ⟨_, rfl, a, false, rfl, rfl, q⟩⟩
def spOnce : Sp := fun vs H Q _ => ∃ l, vs = [.str (tx l)] ∧ (∀ n ∈ l, n ∈ alpha) ∧ l.length ≤ 60 ∧ Gives H Q (.str (tx (norm l)))
theorem ok_once {f : Addr} {fd : FuncData} (F : FnP K "_law_once" "_law_once" s_l_once f fd) (ml : mg "list" = none) (ms : mg "set" = none) (mo : mg "sorted" = none) : FnOk P w K mg base CX0 1 f fd ["_law_text"] spOnce := by
  refine F.ok sc_l_once (fun vs H Q E h => ?_) (fun cdv A outer s H vs Q E hr h => ?_)
  · obtain ⟨l, rfl, _⟩ := h
    rfl
  · obtain ⟨l, rfl, hl, h60, q⟩ := h
    refine ⟨_, PSs.nox (pss_one (ps_ret (pe_join pe_str (pe_callB (cr_sortTx rfl) (by rfl) mo (by decide +kernel) (pa_cons (pe_callTy (cr_setTx rfl) (by rfl) ms (by decide +kernel) (pa_cons (pe_callTy (call_listTx rfl) (by rfl) ml (by decide +kernel) (pa_cons (pv 0) pa_nil)) pa_nil)) pa_nil))))), ?_⟩
    refine ⟨⟨_, rfl⟩, _, rfl, l, rfl, line_small (by omega), fun p hp => ?_⟩
    refine ⟨p, l.map sg, rfl, SqL.of (by rw [← strs_sg]; exact upd_same), by rw [List.length_map]; unfold scanBound; omega, fun b M c hb hM hc => ?_⟩
    rw [List.length_map] at hc
    refine ⟨b, M, c, rfl, upd_same, by omega, fun ys d y1 y2 y3 y4 hd => ?_⟩
    have e := once_eq hl y1 y2 fun z => (y3 z).trans (hM z)
    subst e
    have s1 : Same H (upd H p (.lst (l.map fun n => V.str (sg n)))) := same_new hp
    refine join_rd (l := norm l) ?_ (Nat.le_trans (norm_len l) (by decide)) (q _ ((s1.trans (same_new hb)).trans (same_new hd)))
    rw [upd_same, ← strs_sg]
def spString : Sp := fun vs H Q _ => ∃ b c p abc, vs = [.ref b, .ref p] ∧ Bag H b c ∧ H p = some (.lst (lettersV abc)) ∧ p ≠ b ∧ p ≠ c ∧ 0 < abc.length ∧ abc.length ≤ 94 ∧ (∀ n ∈ abc, n ∈ alpha) ∧
  ∀ (l : List Nat) (H' : Hp), l.length ≤ 6 → (∀ n ∈ l, n ∈ alpha) → Bag H' b c → Kept b c H H' → Q (.str (tx l)) H'
theorem ok_string {f : Addr} {fd : FuncData} (F : FnP K "_law_string" "_law_string" s_l_string f fd) (mr : mg "range" = none) (mn : mg "len" = none) (D : Can P w K mg base "_law_draw" ["_law_bag_here", "_law_limit"] 1 spDraw) :
    FnOk P w K mg base CX0 2 f fd ["_law_bag_here", "_law_letters_here"] spString := by
  obtain ⟨fD, fdD, GD, gD, kD, bD⟩ := D
  have nd := sc_l_string.nd
  refine F.ok sc_l_string (fun vs H Q E h => ?_) (fun cdv A outer s H vs Q E hr h => ?_)
  · obtain ⟨b, c, p, abc, rfl, _⟩ := h
    rfl
  · obtain ⟨b, c, p, abc, rfl, B, hp, npb, npc, h0, h94, hab, q⟩ := h
    refine ⟨_, PSs.nox (pss_one (ps_ret (pe_join pe_str (pe_lc (own := [("_law_k", 2)]) (g := gName 2) (tt := tYes) rfl nd (pi_range1 rfl mr (pa_cons (pe_call GD hr (by rfl) gD kD bD .nil pass0 (pa_cons (pv 0) (pa_cons pe_int pa_nil))) pa_nil))
      (blkOk_by (N := ["_law_bag_here", "_law_letters_here", "_law_k"]) (sc := defScope s_l_string) (by decide +kernel)) (fun _ _ _ _ _ => pg_name (i := 2) nd rfl (Or.inl rfl)) (fun _ _ _ _ _ => pts_nil)
      (fun _ _ _ _ _ => pe_ix (r := rIxL K) ix_list (pv 1) (pe_call GD hr (by rfl) gD kD bD .nil pass0 (pa_cons (pv 0) (pa_cons (pe_callB (r := rLenSeq K) call_len_seq (by rfl) mn PySem.boot_len (pa_cons (pv 1) pa_nil)) pa_nil))) (fun _ _ => rfl)))))), ?_⟩
    refine ⟨⟨_, rfl⟩, _, rfl, b, c, 7, rfl, B, by decide, by decide, fun m H1 m0 m7 B1 K1 => ?_⟩
    refine ⟨m, rfl, by omega, by omega, fun D hD => ?_⟩
    have keepD : ∀ x o, H x = some o → x ≠ b → x ≠ c → x ≠ D := fun x o e nb nc => ne_of_none (K1 x o e nb nc) hD
    refine lc_range (lo := 0) (n := m.toNat) (fun i H2 => ∃ l : List Nat, H2 D = some (.lst (lettersV l)) ∧ l.length = i ∧ (∀ n ∈ l, n ∈ alpha) ∧ Bag H2 b c ∧ Kept b c H H2) ?_ ?_ ?_
    · exact ⟨[], upd_same, rfl, by simp, B1.new hD, fun x o e nb nc => by rw [upd_ne (keepD x o e nb nc)]; exact K1 x o e nb nc⟩
    · rintro i H2 hi ⟨l, e1, e2, e3, B2, K2⟩
      refine ⟨rfl, ?_⟩
      refine yes_keep ?_
      have hp2 := K2 _ _ hp npb npc
      refine ⟨_, rfl, _, rfl, _, rfl, p, _, rfl, .inl (SqL.of hp2), ?_⟩
      have el : (lettersV abc).length = abc.length := List.length_map _
      refine ⟨b, c, _, rfl, B2, by rw [el]; omega, ?_, fun d H3 d0 d1 B3 K3 => ?_⟩
      · rw [el]
        show abc.length < 2 ^ 200
        exact Nat.lt_of_le_of_lt h94 (by decide)
      · rw [el] at d1
        have hp3 := K3 _ _ hp2 npb npc
        have hj : d.toNat < abc.length := by omega
        have hat : atI (lettersV abc) d = some (.str (sg abc[d.toNat])) := by
          have e : ((d.toNat : Nat) : Int) = d := by omega
          have z : atI (lettersV abc) ((d.toNat : Nat) : Int) = some (.str (sg abc[d.toNat])) := by
            refine atI_nat ?_
            unfold lettersV
            rw [List.getElem?_map, List.getElem?_eq_getElem hj]
            rfl
          exact (congrArg (atI (lettersV abc)) e).symm.trans z
        refine ⟨p, _, d, _, rfl, rfl, SqL.of hp3, hat, ?_⟩
        obtain ⟨n1, m1, k1, hb1⟩ := B2.top
        obtain ⟨ns1, hc1⟩ := B2.cells
        have nDb : D ≠ b := fun z => by
          obtain ⟨n4, m4, k4, hb4⟩ := B1.top
          rw [z, hb4] at hD
          cases hD
        have nDc : D ≠ c := fun z => by
          obtain ⟨ns4, hc4⟩ := B1.cells
          rw [z, hc4] at hD
          cases hD
        have e4 := K3 _ _ e1 nDb nDc
        refine ⟨_, e4, ?_, l ++ [abc[d.toNat]], ?_, ?_, ?_, ?_, ?_⟩
        · rw [show (lettersV l).length = l.length from List.length_map _]
          exact small1000 (by omega)
        · rw [upd_same]
          unfold lettersV
          rw [List.map_append]
          rfl
        · rw [List.length_append, e2]
          rfl
        · intro n hn
          rcases List.mem_append.mp hn with z | z
          · exact e3 n z
          · rw [List.mem_singleton.mp z]
            exact hab _ (List.getElem_mem hj)
        · obtain ⟨n5, m5, k5, hb5⟩ := B3.top
          obtain ⟨ns5, hc5⟩ := B3.cells
          exact ⟨⟨n5, m5, k5, by rw [upd_ne (Ne.symm nDb)]; exact hb5⟩, ⟨ns5, by rw [upd_ne (Ne.symm nDc)]; exact hc5⟩⟩
        · intro x o e nb nc
          rw [upd_ne (keepD x o e nb nc)]
          exact (K2.trans K3) x o e nb nc
    · rintro H2 ⟨l, e1, e2, e3, B2, K2⟩
      exact join_rd (l := l) e1 (by omega) (q l H2 (by omega) e3 B2 K2)
end
end K01

namespace K01
open PySem PySem.Spec PyProof.Rows L2 Tl
theorem str_ne {l k : List Nat} : decide (V.str (tx l) = V.str (tx k)) = decide (l = k) := by
  rw [decide_eq_decide]
  exact ⟨fun z => tx_inj (V.str.inj z), fun z => by rw [z]⟩
theorem made_same {H H1 : Hp} {r dr : Addr} {o : HO} (hr0 : H r = none) (hdr : H dr = none) (k : ∀ x u, (upd (upd H dr (.own r)) r o) x = some u → x ≠ r → H1 x = some u) : Same H H1 := fun x u z => k x u (by
  rw [upd_ne (ne_of_none z hr0), upd_ne (ne_of_none z hdr)]
  exact z) (ne_of_none z hr0)
theorem norm_app (l k : List Nat) : norm (norm l ++ norm k) = norm (l ++ k) := norm_congr fun n hn => by
  rw [List.mem_append, List.mem_append]
  unfold norm
  rw [List.mem_filter, List.mem_filter, decide_eq_true_eq, decide_eq_true_eq]
  exact ⟨fun z => z.imp (·.2) (·.2), fun z => z.imp (⟨hn, ·⟩) (⟨hn, ·⟩)⟩
theorem decT {p : Prop} [Decidable p] (h : p) : decide p = true := decide_eq_true h
theorem ifF {c : Bool} {A B : Prop} (hc : c = false) (h : B) : if c = true then A else B := by
  rw [hc, if_neg Bool.false_ne_true]
  exact h
theorem ifT {c : Bool} {A B : Prop} (hc : c = true) (h : A) : if c = true then A else B := by
  rw [hc, if_pos rfl]
  exact h
section
variable {P : Program} {w : World} {K : PySem.W.Frag} {mg : Str → Option Value} {base : Heap} {C : Addr}
/-- all that is known of the class Signs -/
structure Clx (P : Program) (w : World) (K : PySem.W.Frag) (mg : Str → Option Value) (base : Heap) (C : Addr) : Prop where
  make : CanMk P w K mg base C
  or_ : CanM P w K mg base C "__or__" ["self", "other"] 5 (spOp C fOr)
  and_ : CanM P w K mg base C "__and__" ["self", "other"] 5 (spOp C fAnd)
  sub_ : CanM P w K mg base C "__sub__" ["self", "other"] 5 (spOp C fSub)
  ror_ : CanM P w K mg base C "__ror__" ["self", "other"] 6 (spOpT C fOr)
  ior_ : CanM P w K mg base C "__ior__" ["self", "other"] 6 (spOpT C fOr)
  rand_ : CanM P w K mg base C "__rand__" ["self", "other"] 6 (spOpT C fAnd)
  rsub_ : CanM P w K mg base C "__rsub__" ["self", "other"] 5 (spOp C fun S U => fSub U S)
  inv_ : CanM P w K mg base C "__invert__" ["self"] 5 (spInv C)
  eq_ : CanM P w K mg base C "__eq__" ["self", "other"] 1 (spEq C)
  len_ : CanM P w K mg base C "__len__" ["self"] 1 (spLen C)
  bool_ : CanM P w K mg base C "__bool__" ["self"] 1 (spBool C)
  has_ : CanM P w K mg base C "__contains__" ["self", "x"] 2 (spHas C)
  within : CanM P w K mg base C "within" ["self", "other"] 5 (spWithin C)
  least : CanM P w K mg base C "least" ["self"] 1 (spLeast C)
  spelled : CanM P w K mg base C "spelled" ["self"] 1 (spSpelled C)
def spIs (C : Addr) : Sp := fun vs H Q _ => ∃ a U, vs = [.ref a, .str (tx U)] ∧ Sg C H a U ∧ Gives H Q (.bl true)
theorem ok_is {f : Addr} {fd : FuncData} (F : FnP K "_law_is" "_law_is" s_l_is f fd) (T : Txt K mg C) (Z : Clx P w K mg base C) : FnOk P w K mg base CX0 4 f fd ["_law_actual", "_law_due"] (spIs C) := by
  obtain ⟨fI, fdI, MI, GI, bI, _⟩ := Z.make
  obtain ⟨fE, fdE, GE, ME, bE⟩ := Z.eq_
  obtain ⟨fL, fdL, GL, ML, bL⟩ := Z.len_
  obtain ⟨fB, fdB, GB, MB, bB⟩ := Z.bool_
  obtain ⟨fS, fdS, GS, MS, bS⟩ := Z.spelled
  obtain ⟨fM, fdM, GM, MM, bM⟩ := Z.least
  refine F.ok sc_l_is (fun vs H Q E h => ?_) (fun cdv A outer s H vs Q E hr h => ?_)
  · obtain ⟨a, U, rfl, _⟩ := h
    rfl
  · obtain ⟨a, U, rfl, hS, q⟩ := h
    have hr1 : Room 1 _ := hr.mono (by decide)
    have hr2 : Room 2 _ := hr.mono (by decide)
    refine ⟨_, PSs.nox (pss_cons (ps_if (PW.pt (pw_or (pt_not (pt_val (pe_callB call_isi (by rfl) T.isi (by decide +kernel) (pa_cons (pv 0) (pa_cons (pe_glob (v := .ref C) rfl T.gC rfl) pa_nil)))))
          (pw_or1 (pt_not (pt_val (pe_callB call_isi (by rfl) T.isi (by decide +kernel) (pa_cons (pe_meth0 (pv 0) T.cl MS GS hr1 bS .nil pass0) (pa_cons (pe_bltn (v := .ty "str") (by rfl) T.str (by decide +kernel) rfl) pa_nil)))))))) (pss_one (ps_ret pe_bl)) pss_nil)
      (pss_cons (ps_if (PW.pt (pw_or (pt_cmpR op_ne (pe_meth0 (pv 0) T.cl MS GS hr1 bS .nil pass0) (pv 1) (nomark _))
          (pw_or (pt_cmpR op_ne (pe_callB (call_lenO (E := E0) (opD ML) GL hr2 bL pass0) (by rfl) T.len PySem.boot_len (pa_cons (pv 0) pa_nil)) (pe_callB call_len_str (by rfl) T.len PySem.boot_len (pa_cons (pv 1) pa_nil)) (nomark _))
          (pw_or1 (pt_cmpR op_ne (pe_callTy (call_boolO (E := E0) (opD MB) GB hr bB pass0) (by rfl) T.bool (by decide +kernel) (pa_cons (pv 0) pa_nil)) (pe_cmpR op_ne (pv 1) pe_str (nomark _)) (nomark _)))))) (pss_one (ps_ret pe_bl)) pss_nil)
      (pss_cons (ps_if (PW.pt (pw_or (pt_not (pt_cmpR (op_eqO (E := E0) (opD ME) GE hr1 bE pass0) (pv 0) (pe_make MI GI hr (by rfl) T.gC bI .nil pass0 (pa_cons (pv 1) pa_nil)) (nomark _)))
          (pw_or1 (PW.pt (pw_and (pt_cmpR op_notIn_sign pe_str (pv 1) rfl) (pw_and1 (pt_cmpR (op_eqO (E := E0) (opD ME) GE hr1 bE pass0) (pv 0) (pe_make MI GI hr (by rfl) T.gC bI .nil pass0 (pa_cons (pe_op op_add_str (pv 1) pe_str) pa_nil)) (nomark _)))))))) (pss_one (ps_ret pe_bl)) pss_nil)
      (pss_one (ps_ret (pe_or (pe_cmpR op_eq (pv 1) pe_str (nomark _)) (pe_one (pe_cmpR op_eq (pe_meth0 (pv 0) T.cl MM GM hr1 bM .nil pass0) (pe_ix ix_str (pv 1) pe_int (fun _ _ => rfl)) (nomark _))))))))), ?_⟩
    obtain ⟨⟨dx, e⟩, _⟩ := id hS
    have l1 := hS.len
    -- an instance, its signs a text
    refine ⟨_, rfl, _, _, _, _, true, rfl, .own C, T.ty hS, T.kOwn, true, rfl, iteF ?_⟩
    refine ⟨_, rfl, a, dx, _, rfl, e, flS_no U (by decide), a, U, rfl, hS, _, _, _, _, true, rfl, .ty "str", .base (.str _), kit_ty (by decide +kernel), true, rfl, iteF ?_⟩
    -- its signs, their number, its truth
    refine ⟨_, rfl, a, dx, _, rfl, e, flS_no U (by decide), a, U, rfl, hS, _, rfl, rfl, _, rfl, ifF (by rw [decT rfl]; rfl) ?_⟩
    refine ⟨_, rfl, a, dx, _, rfl, e, a, U, rfl, hS, _, rfl, by omega, by omega, _, rfl, tx U, rfl, line_small (by rw [len_tx]; omega), rfl, _, rfl, ifF (by rw [len_tx, decT rfl]; rfl) ?_⟩
    refine ⟨_, rfl, a, dx, _, rfl, e, a, U, rfl, hS, _, rfl, _, rfl, rfl, rfl, _, rfl, ifF ?_ ?_⟩
    · have e1 : decide (V.str (tx U) = V.str (tx [])) = decide (U = []) := str_ne
      show (!decide (V.bl (!U.isEmpty) = V.bl (!decide (V.str (tx U) = V.str (tx []))))) = false
      rw [e1]
      cases U with
      | nil => rfl
      | cons x r => rfl
    -- the set of the very signs, the set of one more
    have fin : ∀ H2, Same H H2 → tOrV (tOp rEq (tVar 1) (tC (.str (tx [])))) (tOp rEq (tMeth C "least" (spLeast C) [] E0 (tVar 0) tNil) (tOp rIxS (tVar 1) (tC (.int 0)))) (L2.start ["_law_actual", "_law_due"] [V.ref a, V.str (tx U)]) H2 Q := fun H2 s2 => by
      have e2 := s2 _ _ e
      have hS2 : Sg C H2 a U := hS.at fun o z => s2 _ _ z
      refine ⟨_, rfl, rfl, _, rfl, ?_⟩
      cases U with
      | nil => exact ifT (decT rfl) (q H2 s2)
      | cons n U =>
        refine ifF (decide_eq_false fun z => by cases tx_inj (V.str.inj z)) ?_
        refine ⟨_, rfl, a, dx, _, rfl, e2, flS_no _ (by decide), a, n, U, rfl, hS2, _, rfl, tx (n :: U), 0, n, rfl, rfl, line_small (by rw [len_tx]; omega), atI_nat (j := 0) rfl, rfl, ?_⟩
        have e3 : decide (V.str (sg n) = V.str ⟨#[n]⟩) = true := decT rfl
        rw [e3]
        exact q H2 s2
    refine ⟨_, rfl, _, rfl, fun r dr hr0 hdr ne => ⟨r, dr, U, rfl, upd_same, hS.txt, fun H1 k e1 => ⟨rfl, a, dx, _, r, dr, _, rfl, rfl, made_same hr0 hdr k _ _ e, e1, a, r, U, norm U, rfl, hS.at fun o z => made_same hr0 hdr k _ _ z, ⟨⟨dr, e1⟩, norm_norm U⟩, _, rfl, ?_⟩⟩⟩
    have s1 := made_same hr0 hdr k
    refine ifF (by rw [hS.can, decT rfl]; rfl) ?_
    refine ⟨_, rfl, 126, tx U, rfl, rfl, _, rfl, ?_⟩
    by_cases h126 : 126 ∈ U
    · refine ifF (by rw [show decide (126 ∈ (tx U).cps.toList) = true from decT h126]; rfl) (iteF (fin H1 s1))
    · refine ifT (by rw [show decide (126 ∈ (tx U).cps.toList) = false from decide_eq_false h126]; rfl) ?_
      have ea : (tx U ++ ("~" : Str)) = tx (U ++ [126]) := tx_app U [126]
      refine ⟨_, rfl, _, rfl, _, _, rfl, rfl, line_small (by rw [len_tx]; show U.length + 1 ≤ _; omega), ?_⟩
      rw [ea]
      have hT : SgT (U ++ [126]) := sgT_app hS.sub (fun n hn => by rw [List.mem_singleton.mp hn]; decide +kernel) (by show U.length + 1 ≤ _; omega)
      refine fun r2 dr2 hr2 hdr2 ne2 => ⟨r2, dr2, U ++ [126], rfl, upd_same, hT, fun H2 k2 e2 => ⟨rfl, a, dx, _, r2, dr2, _, rfl, rfl, made_same hr2 hdr2 k2 _ _ (s1 _ _ e), e2, a, r2, U, norm (U ++ [126]), rfl, hS.at fun o z => made_same hr2 hdr2 k2 _ _ (s1 _ _ z), ⟨⟨dr2, e2⟩, norm_norm _⟩, _, rfl, ?_⟩⟩
      refine ifF (decide_eq_false fun z => h126 ?_) (fin H2 (s1.trans (made_same hr2 hdr2 k2)))
      rw [z]
      exact (mem_norm hT.sub 126).2 (by simp)
/-- an operator's answer on operands of any form -/
theorem or_read {x y : V} {S U : List Nat} {H : Hp} {Q : VK} (hx : Opd C H x S) (hy : Opd C H y U) (nt : (∃ a, x = .ref a) ∨ ∃ a, y = .ref a) (q : GivesSg C H Q (fOr S U)) :
    rBin C (spOp C fOr) E0 x y H Q ∨ (rBinS C (spOp C fOr) E0 x y H Q ∨ rBinR C (spOpT C fOr) E0 x y H Q) := by
  rcases hx with ⟨a, rfl, hS⟩ | ⟨l, rfl, hl, rfl⟩
  · obtain ⟨⟨dx, e⟩, _⟩ := id hS
    rcases hy with ⟨b, rfl, hU⟩ | ⟨k, rfl, hk, rfl⟩
    · obtain ⟨⟨dy, e2⟩, _⟩ := id hU
      exact .inl ⟨a, dx, _, b, dy, _, rfl, rfl, e, e2, a, _, S, U, rfl, hS, .inl ⟨b, rfl, hU⟩, q⟩
    · exact .inr (.inl ⟨a, dx, _, _, rfl, rfl, e, a, _, S, norm k, rfl, hS, .inr ⟨k, rfl, hk, rfl⟩, q⟩)
  · rcases hy with ⟨b, rfl, hU⟩ | ⟨k, rfl, hk, rfl⟩
    · obtain ⟨⟨dy, e2⟩, _⟩ := id hU
      refine .inr (.inr ⟨b, dy, _, _, rfl, rfl, e2, b, l, U, rfl, hU, hl, ?_⟩)
      have ec : fOr U (norm l) = fOr (norm l) U := norm_congr fun n _ => by
        rw [List.mem_append, List.mem_append]
        exact Or.comm
      rw [ec]
      exact q
    · rcases nt with ⟨a, z⟩ | ⟨a, z⟩ <;> cases z
theorem and_comm' {S U : List Nat} (hS : norm S = S) (hU : norm U = U) : fAnd U S = fAnd S U := by
  have e : ∀ {A B : List Nat}, norm A = A → fAnd A B = alpha.filter fun n => decide (n ∈ A) && decide (n ∈ B) := fun {A B} hA => by
    show A.filter _ = _
    rw [← hA]
    unfold norm
    rw [List.filter_filter]
    exact List.filter_congr fun n hn => by
      rw [Bool.eq_iff_iff, Bool.and_eq_true, Bool.and_eq_true, decide_eq_true_eq, decide_eq_true_eq, decide_eq_true_eq, List.mem_filter, decide_eq_true_eq]
      exact ⟨fun z => ⟨⟨hn, z.2⟩, z.1⟩, fun z => ⟨z.2, z.1.2⟩⟩
  rw [e hS, e hU]
  exact List.filter_congr fun n _ => Bool.and_comm _ _
theorem and_read {x y : V} {S U : List Nat} {H : Hp} {Q : VK} (hx : Opd C H x S) (hy : Opd C H y U) (nt : (∃ a, x = .ref a) ∨ ∃ a, y = .ref a) (q : GivesSg C H Q (fAnd S U)) :
    rBin C (spOp C fAnd) E0 x y H Q ∨ (rBinS C (spOp C fAnd) E0 x y H Q ∨ rBinR C (spOpT C fAnd) E0 x y H Q) := by
  have cS := hx.can
  have cU := hy.can
  rcases hx with ⟨a, rfl, hS⟩ | ⟨l, rfl, hl, rfl⟩
  · obtain ⟨⟨dx, e⟩, _⟩ := id hS
    rcases hy with ⟨b, rfl, hU⟩ | ⟨k, rfl, hk, rfl⟩
    · obtain ⟨⟨dy, e2⟩, _⟩ := id hU
      exact .inl ⟨a, dx, _, b, dy, _, rfl, rfl, e, e2, a, _, S, U, rfl, hS, .inl ⟨b, rfl, hU⟩, q⟩
    · exact .inr (.inl ⟨a, dx, _, _, rfl, rfl, e, a, _, S, norm k, rfl, hS, .inr ⟨k, rfl, hk, rfl⟩, q⟩)
  · rcases hy with ⟨b, rfl, hU⟩ | ⟨k, rfl, hk, rfl⟩
    · obtain ⟨⟨dy, e2⟩, _⟩ := id hU
      refine .inr (.inr ⟨b, dy, _, _, rfl, rfl, e2, b, l, U, rfl, hU, hl, ?_⟩)
      rw [and_comm' cS cU]
      exact q
    · rcases nt with ⟨a, z⟩ | ⟨a, z⟩ <;> cases z
theorem sub_read {x y : V} {S U : List Nat} {H : Hp} {Q : VK} (hx : Opd C H x S) (hy : Opd C H y U) (nt : (∃ a, x = .ref a) ∨ ∃ a, y = .ref a) (q : GivesSg C H Q (fSub S U)) :
    rBin C (spOp C fSub) E0 x y H Q ∨ (rBinS C (spOp C fSub) E0 x y H Q ∨ rBinR C (spOp C fun A B => fSub B A) E0 x y H Q) := by
  rcases hx with ⟨a, rfl, hS⟩ | ⟨l, rfl, hl, rfl⟩
  · obtain ⟨⟨dx, e⟩, _⟩ := id hS
    rcases hy with ⟨b, rfl, hU⟩ | ⟨k, rfl, hk, rfl⟩
    · obtain ⟨⟨dy, e2⟩, _⟩ := id hU
      exact .inl ⟨a, dx, _, b, dy, _, rfl, rfl, e, e2, a, _, S, U, rfl, hS, .inl ⟨b, rfl, hU⟩, q⟩
    · exact .inr (.inl ⟨a, dx, _, _, rfl, rfl, e, a, _, S, norm k, rfl, hS, .inr ⟨k, rfl, hk, rfl⟩, q⟩)
  · rcases hy with ⟨b, rfl, hU⟩ | ⟨k, rfl, hk, rfl⟩
    · obtain ⟨⟨dy, e2⟩, _⟩ := id hU
      exact .inr (.inr ⟨b, dy, _, _, rfl, rfl, e2, b, _, U, norm l, rfl, hU, .inr ⟨l, rfl, hl, rfl⟩, q⟩)
    · rcases nt with ⟨a, z⟩ | ⟨a, z⟩ <;> cases z
end
end K01

namespace K01
open PySem PySem.Spec PyProof.Rows L2 Tl
section
variable {P : Program} {w : World} {K : PySem.W.Frag} {mg : Str → Option Value} {base : Heap} {C : Addr}
theorem asg_go {te : TE} {g : TG} {D : Ends} {σ : L2.St} {H : Hp} (h : te σ H fun x H1 => g x σ H1 D.nx) : tAsg te g D σ H := h
theorem seq_go {t u : TS} {D : Ends} {σ : L2.St} {H : Hp} (h : t { D with nx := u D } σ H) : tSeq t u D σ H := h
theorem name_go {i : Nat} {v : V} {σ : L2.St} {H : Hp} {Q : L2.St → Hp → Prop} (h : Q (σ.set i (some v)) H) : gName i v σ H Q := h
def spPairs (C : Addr) : Sp := fun vs H Q _ => ∃ l k x y, vs = [.str (tx l), .str (tx k), x, y] ∧ (∀ n ∈ l, n ∈ alpha) ∧ (∀ n ∈ k, n ∈ alpha) ∧ l.length ≤ 6 ∧ k.length ≤ 6 ∧ Opd C H x (norm l) ∧ Opd C H y (norm k) ∧ ((∃ a, x = .ref a) ∨ ∃ a, y = .ref a) ∧ Gives H Q (.bl true)
theorem ok_pairs {f : Addr} {fd : FuncData} (F : FnP K "_law_pairs" "_law_pairs" s_l_pairs f fd) (T : Txt K mg C) (Z : Clx P w K mg base C) (On : Can P w K mg base "_law_once" ["_law_text"] 1 spOnce) (Is : Can P w K mg base "_law_is" ["_law_actual", "_law_due"] 4 (spIs C)) :
    FnOk P w K mg base CX0 7 f fd ["_law_one", "_law_two", "_law_first", "_law_second"] (spPairs C) := by
  obtain ⟨f1, fd1, G1, g1, k1, b1⟩ := On
  obtain ⟨f2, fd2, G2, g2, k2, b2⟩ := Is
  obtain ⟨fO, fdO, GO, MO, bO⟩ := Z.or_
  obtain ⟨fP, fdP, GP, MP, bP⟩ := Z.ror_
  obtain ⟨fA, fdA, GA, MA, bA⟩ := Z.and_
  obtain ⟨fB, fdB, GB, MB, bB⟩ := Z.rand_
  obtain ⟨fS, fdS, GS, MS, bS⟩ := Z.sub_
  obtain ⟨fU, fdU, GU, MU, bU⟩ := Z.rsub_
  have nd := sc_l_pairs.nd
  refine F.ok sc_l_pairs (fun vs H Q E h => ?_) (fun cdv A outer s H vs Q E hr h => ?_)
  · obtain ⟨l, k, x, y, rfl, _⟩ := h
    rfl
  · obtain ⟨l, k, x, y, rfl, hl, hk, l6, k6, hx, hy, nt, q⟩ := h
    have hr1 : Room 1 _ := hr.mono (by decide)
    have hr4 : Room 4 _ := hr.mono (by decide)
    have hr5 : Room 5 _ := hr.mono (by decide)
    refine ⟨_, PSs.nox (pss_cons (ps_set (i := 4) nd rfl (.inl rfl) (pe_call G1 hr1 (by rfl) g1 k1 b1 .nil pass0 (pa_cons (pe_op op_add_str (pv 0) (pv 1)) pa_nil)))
      (pss_cons (ps_set (i := 6) nd rfl (.inl rfl) (pe_join pe_str (pe_lc (own := [("_law_sign", 5)]) (g := gName 5) rfl nd (pi_str (pe_call G1 hr1 (by rfl) g1 k1 b1 .nil pass0 (pa_cons (pv 0) pa_nil)))
          (blkOk_by (N := ["_law_one", "_law_two", "_law_first", "_law_second", "_law_joined", "_law_sign", "_law_shared", "_law_less"]) (sc := defScope s_l_pairs) (by decide +kernel)) (fun _ _ _ _ _ => pg_name (i := 5) nd rfl (Or.inl rfl)) (fun _ _ _ _ _ => pts_one (pt_cmpR op_in_sign (pv 5) (pv 1) rfl)) (fun _ _ _ _ _ => pv 5))))
      (pss_cons (ps_set (i := 7) nd rfl (.inl rfl) (pe_join pe_str (pe_lc (own := [("_law_sign", 5)]) (g := gName 5) rfl nd (pi_str (pe_call G1 hr1 (by rfl) g1 k1 b1 .nil pass0 (pa_cons (pv 0) pa_nil)))
          (blkOk_by (N := ["_law_one", "_law_two", "_law_first", "_law_second", "_law_joined", "_law_sign", "_law_shared", "_law_less"]) (sc := defScope s_l_pairs) (by decide +kernel)) (fun _ _ _ _ _ => pg_name (i := 5) nd rfl (Or.inl rfl)) (fun _ _ _ _ _ => pts_one (pt_cmpR op_notIn_sign (pv 5) (pv 1) rfl)) (fun _ _ _ _ _ => pv 5))))
      (pss_cons (ps_if (PW.pt (pw_or (pt_not (pt_val (pe_call G2 hr4 (by rfl) g2 k2 b2 .nil pass0 (pa_cons
            (pe_op (op_or (op_bin (E := E0) (op := .BitOr) T.first (opD MO) GO hr5 bO pass0) (op_or (op_binS (E := E0) (op := .BitOr) T.first (opD MO) (atD MP) (addr_ex fP) (T.s1 (m := "or") (by decide)) (T.s2 (m := "or") (by decide)) T.sStr GO hr5 bO pass0)
              (op_binR (E := E0) (op := .BitOr) T.first (opD MO) (opD MP) (T.s1 (m := "or") (by decide)) (T.s2 (m := "or") (by decide)) rfl GP hr bP pass0))) (pv 2) (pv 3)) (pa_cons (pv 4) pa_nil)))))
          (pw_or1 (pt_not (pt_val (pe_call G2 hr4 (by rfl) g2 k2 b2 .nil pass0 (pa_cons
            (pe_op (op_or (op_bin (E := E0) (op := .BitAnd) T.first (opD MA) GA hr5 bA pass0) (op_or (op_binS (E := E0) (op := .BitAnd) T.first (opD MA) (atD MB) (addr_ex fB) (T.s1 (m := "and") (by decide)) (T.s2 (m := "and") (by decide)) T.sStr GA hr5 bA pass0)
              (op_binR (E := E0) (op := .BitAnd) T.first (opD MA) (opD MB) (T.s1 (m := "and") (by decide)) (T.s2 (m := "and") (by decide)) rfl GB hr bB pass0))) (pv 2) (pv 3)) (pa_cons (pv 6) pa_nil)))))))) (pss_one (ps_ret pe_bl)) pss_nil)
      (pss_one (ps_ret (pe_call G2 hr4 (by rfl) g2 k2 b2 .nil pass0 (pa_cons
            (pe_op (op_or (op_bin (E := E0) (op := .Sub) T.first (opD MS) GS hr5 bS pass0) (op_or (op_binS (E := E0) (op := .Sub) T.first (opD MS) (atD MU) (addr_ex fU) (T.s1 (m := "sub") (by decide)) (T.s2 (m := "sub") (by decide)) T.sStr GS hr5 bS pass0)
              (op_binR (E := E0) (op := .Sub) T.first (opD MS) (opD MU) (T.s1 (m := "sub") (by decide)) (T.s2 (m := "sub") (by decide)) rfl GU hr5 bU pass0))) (pv 2) (pv 3)) (pa_cons (pv 7) pa_nil))))))))), ?_⟩
    have hlk : ∀ n ∈ l ++ k, n ∈ alpha := fun n hn => (List.mem_append.mp hn).elim (hl n) (hk n)
    have ea : (tx l ++ tx k) = tx (l ++ k) := tx_app l k
    refine ⟨_, rfl, _, rfl, _, _, rfl, rfl, line_small (by rw [len_tx, len_tx]; omega), ?_⟩
    rw [ea]
    refine ⟨l ++ k, rfl, hlk, by rw [List.length_append]; omega, fun H1 s1 => ?_⟩
    refine name_go ?_
    dsimp only
    refine seq_go (asg_go ?_)
    refine join_txG (i := 5) (l := norm l) (p := fun n => decide (n ∈ k)) rfl (Nat.le_trans (norm_len l) (by decide)) (fun Q' z => ⟨_, rfl, l, rfl, hl, by omega, z⟩) (fun _ => rfl) (fun _ => rfl) (fun n H2 Qb _ z => ⟨_, rfl, _, rfl, n, tx k, rfl, rfl, _, rfl, z⟩) fun H2 s2 => ?_
    refine name_go ?_
    dsimp only
    refine seq_go (asg_go ?_)
    refine join_txG (i := 5) (l := norm l) (p := fun n => !decide (n ∈ k)) rfl (Nat.le_trans (norm_len l) (by decide)) (fun Q' z => ⟨_, rfl, l, rfl, hl, by omega, z⟩) (fun _ => rfl) (fun _ => rfl) (fun n H2 Qb _ z => ⟨_, rfl, _, rfl, n, tx k, rfl, rfl, _, rfl, z⟩) fun H3 s3 => ?_
    refine name_go ?_
    dsimp only
    have S3 : Same H H3 := (s1.trans s2).trans s3
    have x3 := hx.at S3
    have y3 := hy.at S3
    have eo : fOr (norm l) (norm k) = norm (l ++ k) := norm_app l k
    have en : fAnd (norm l) (norm k) = (norm l).filter fun n => decide (n ∈ k) := List.filter_congr fun n hn => by
      rw [decide_eq_decide]
      exact mem_norm hk n
    have es : fSub (norm l) (norm k) = (norm l).filter fun n => !decide (n ∈ k) := List.filter_congr fun n hn => by
      rw [decide_eq_decide.mpr (mem_norm hk n)]
    -- the union, the intersection
    refine ⟨_, rfl, _, rfl, or_read x3 y3 nt fun r H4 s4 hr4 g4 => ?_⟩
    rw [eo] at g4
    refine ⟨_, rfl, r, _, rfl, g4, fun H5 s5 => ⟨true, rfl, iteF ?_⟩⟩
    have S5 : Same H H5 := (S3.trans s4).trans s5
    refine ⟨_, rfl, _, rfl, and_read (hx.at S5) (hy.at S5) nt fun r6 H6 s6 hr6 g6 => ?_⟩
    rw [en] at g6
    refine ⟨_, rfl, r6, _, rfl, g6, fun H7 s7 => ⟨true, rfl, iteF ?_⟩⟩
    have S7 : Same H H7 := (S5.trans s6).trans s7
    -- the difference
    refine ⟨_, rfl, _, rfl, sub_read (hx.at S7) (hy.at S7) nt fun r8 H8 s8 hr8 g8 => ?_⟩
    rw [es] at g8
    exact ⟨_, rfl, r8, _, rfl, g8, fun H9 s9 => q H9 ((S7.trans s8).trans s9)⟩
end
end K01

namespace K01
open PySem PySem.Spec PyProof.Rows L2 Tl
section
variable {P : Program} {w : World} {K : PySem.W.Frag} {mg : Str → Option Value} {base : Heap} {C : Addr}
/-- the helpers of the law, as the top has them -/
structure Hel (P : Program) (w : World) (K : PySem.W.Frag) (mg : Str → Option Value) (base : Heap) (C : Addr) : Prop where
  bag : Can P w K mg base "_law_bag" ["_law_script"] 1 (spBag K)
  draw : Can P w K mg base "_law_draw" ["_law_bag_here", "_law_limit"] 1 spDraw
  alph : Can P w K mg base "_law_alphabet" [] 1 spAlpha
  letters : Can P w K mg base "_law_letters" ["_law_bag_here", "_law_many"] 2 spLetters
  flag : Can P w K mg base "_law_flag" ["_law_actual", "_law_due"] 1 spFlag
  once : Can P w K mg base "_law_once" ["_law_text"] 1 spOnce
  string : Can P w K mg base "_law_string" ["_law_bag_here", "_law_letters_here"] 2 spString
  is_ : Can P w K mg base "_law_is" ["_law_actual", "_law_due"] 4 (spIs C)
  pairs : Can P w K mg base "_law_pairs" ["_law_one", "_law_two", "_law_first", "_law_second"] 7 (spPairs C)
theorem within_eq {l k : List Nat} (hl : ∀ n ∈ l, n ∈ alpha) (hk : ∀ n ∈ k, n ∈ alpha) : decide (fSub (norm l) (norm k) = []) = decide (V.str (tx (norm (l ++ k))) = V.str (tx (norm k))) := by
  rw [str_ne, decide_eq_decide]
  unfold fSub
  rw [List.filter_eq_nil_iff]
  constructor
  · intro h
    refine norm_congr fun n hn => ?_
    rw [List.mem_append]
    refine ⟨fun z => z.elim (fun z => ?_) id, .inr⟩
    have e := h n ((mem_norm hl n).2 z)
    by_cases c : n ∈ norm k
    · exact (mem_norm hk n).1 c
    · exact absurd (by rw [decide_eq_false c]; rfl) e
  · intro h n hn
    have e : n ∈ norm (l ++ k) := (mem_norm (fun m hm => (List.mem_append.mp hm).elim (hl m) (hk m)) n).2 (List.mem_append.mpr (.inl ((mem_norm hl n).1 hn)))
    rw [h] at e
    rw [decide_eq_true e]
    simp
theorem compl_eq {l : List Nat} (hl : ∀ n ∈ l, n ∈ alpha) : fSub alpha (norm l) = alpha.filter fun n => !decide (n ∈ l) := List.filter_congr fun n hn => by
  rw [decide_eq_decide.mpr (mem_norm hl n)]
theorem mem_compl {S : List Nat} {n : Nat} (hn : n ∈ alpha) : n ∈ fSub alpha S ↔ n ∉ S := by
  unfold fSub
  rw [List.mem_filter, Bool.not_eq_true', decide_eq_false_iff_not]
  exact ⟨fun z => z.2, fun z => ⟨hn, z⟩⟩
theorem compl_two {l : List Nat} : fSub alpha (fSub alpha (norm l)) = norm l := by
  have e : norm l = alpha.filter fun n => decide (n ∈ norm l) := (norm_norm l).symm
  rw [e]
  unfold fSub
  refine List.filter_congr fun n hn => ?_
  rw [← e]
  have m : n ∈ (alpha.filter fun m => !decide (m ∈ norm l)) ↔ n ∉ norm l := mem_compl hn
  by_cases c : n ∈ norm l
  · rw [decide_eq_true c, decide_eq_false (fun z => (m.1 z) c)]
    rfl
  · rw [decide_eq_false c, decide_eq_true (m.2 c)]
    rfl
theorem diff_eq {l k : List Nat} (hl : ∀ n ∈ l, n ∈ alpha) (hk : ∀ n ∈ k, n ∈ alpha) : fAnd (fSub alpha (norm l)) (norm k) = (norm k).filter fun n => !decide (n ∈ l) := by
  unfold fAnd fSub
  rw [List.filter_filter]
  have e : (norm k).filter (fun n => !decide (n ∈ l)) = alpha.filter fun n => !decide (n ∈ l) && decide (n ∈ k) := by
    unfold norm
    rw [List.filter_filter]
  rw [e]
  exact List.filter_congr fun n _ => by
    rw [decide_eq_decide.mpr (mem_norm hl n), decide_eq_decide.mpr (mem_norm hk n), Bool.and_comm]
theorem mem_rep {l : List Nat} {m n : Nat} : n ∈ (List.replicate (m + 1) l).flatten ↔ n ∈ l := by
  rw [List.mem_flatten]
  constructor
  · rintro ⟨k, hk, hn⟩
    rw [List.eq_of_mem_replicate hk] at hn
    exact hn
  · intro h
    exact ⟨l, by rw [List.replicate_succ]; exact List.mem_cons_self, h⟩
theorem len_rep (l : List Nat) : ∀ m, (List.replicate m l).flatten.length = m * l.length
  | 0 => by simp
  | m + 1 => by
    rw [List.replicate_succ, List.flatten_cons, List.length_append, len_rep l m, Nat.succ_mul, Nat.add_comm]
def spLaw (K : PySem.W.Frag) : Sp := fun vs H Q _ => ∃ (a : Addr) (ns : List Int), vs = [.ref a] ∧ SqL K H a (ns.map V.int) ∧ ns.length ≤ 63 ∧ ∀ H', Q (.bl true) H'
abbrev Nl : List Str := ["_law_script", "_law_bag_here", "_law_letters_here", "_law_one", "_law_two", "_law_probe", "_law_first", "_law_second", "_law_right", "_law_sign", "_law_rest", "_law_bound", "_law_due", "_law_total"]
theorem ok_law {f : Addr} {fd : FuncData} (F : FnP K "law" "law" s_law f fd) (T : Txt K mg C) (Z : Clx P w K mg base C) (L : Hel P w K mg base C) : FnOk P w K mg base CX0 8 f fd ["_law_script"] (spLaw K) := by
  obtain ⟨fI, fdI, MI, GI, bI, ds, vds, bI0⟩ := Z.make
  obtain ⟨fO, fdO, GO, MO, bO⟩ := Z.or_
  obtain ⟨fP, fdP, GP, MP, bP⟩ := Z.ror_
  obtain ⟨fA, fdA, GA, MA, bA⟩ := Z.and_
  obtain ⟨fJ, fdJ, GJ, MJ, bJ⟩ := Z.ior_
  obtain ⟨fN, fdN, GN, MN, bN⟩ := Z.inv_
  obtain ⟨fH, fdH, GH, MH, bH⟩ := Z.has_
  obtain ⟨fW, fdW, GW, MW, bW⟩ := Z.within
  obtain ⟨x1, xd1, X1, m1, p1, c1⟩ := L.bag
  obtain ⟨x2, xd2, X2, m2, p2, c2⟩ := L.draw
  obtain ⟨x3, xd3, X3, m3, p3, c3⟩ := L.alph
  obtain ⟨x4, xd4, X4, m4, p4, c4⟩ := L.letters
  obtain ⟨x5, xd5, X5, m5, p5, c5⟩ := L.flag
  obtain ⟨x6, xd6, X6, m6, p6, c6⟩ := L.once
  obtain ⟨x7, xd7, X7, m7, p7, c7⟩ := L.string
  obtain ⟨x8, xd8, X8, m8, p8, c8⟩ := L.is_
  obtain ⟨x9, xd9, X9, m9, p9, c9⟩ := L.pairs
  have nd := sc_law.nd
  refine F.ok sc_law (fun vs H Q E h => ?_) (fun cdv A outer s H vs Q E hr h => ?_)
  · obtain ⟨a, ns, rfl, _⟩ := h
    rfl
  · obtain ⟨a, ns, rfl, hS, hlen, q⟩ := h
    have hr1 : Room 1 _ := hr.mono (by decide)
    have hr2 : Room 2 _ := hr.mono (by decide)
    have hr3 : Room 3 _ := hr.mono (by decide)
    have hr4 : Room 4 _ := hr.mono (by decide)
    have hr5 : Room 5 _ := hr.mono (by decide)
    have hr6 : Room 6 _ := hr.mono (by decide)
    refine ⟨_, PSs.nox (pss_cons (ps_set (i := 1) nd rfl (.inl rfl) (pe_call X1 hr1 (by rfl) m1 p1 c1 .nil pass0 (pa_cons (pv 0) pa_nil)))
      (pss_cons (ps_set (i := 2) nd rfl (.inl rfl) (pe_call X4 hr2 (by rfl) m4 p4 c4 .nil pass0 (pa_cons (pv 1) (pa_cons (pe_op op_add pe_int (pe_call X2 hr1 (by rfl) m2 p2 c2 .nil pass0 (pa_cons (pv 1) (pa_cons pe_int pa_nil)))) pa_nil))))
      (pss_cons (ps_set (i := 3) nd rfl (.inr rfl) (pe_call X7 hr2 (by rfl) m7 p7 c7 .nil pass0 (pa_cons (pv 1) (pa_cons (pv 2) pa_nil))))
      (pss_cons (ps_set (i := 4) nd rfl (.inl rfl) (pe_call X7 hr2 (by rfl) m7 p7 c7 .nil pass0 (pa_cons (pv 1) (pa_cons (pv 2) pa_nil))))
      (pss_cons (ps_set (i := 5) nd rfl (.inl rfl) (pe_ix ix_str (pe_call0 X3 hr1 (by rfl) m3 p3 c3 .nil pass0) (pe_call X2 hr1 (by rfl) m2 p2 c2 .nil pass0 (pa_cons (pv 1) (pa_cons pe_int pa_nil))) (fun _ _ => rfl)))
      (pss_cons (ps_set (i := 6) nd rfl (.inl rfl) (pe_make MI GI hr3 (by rfl) T.gC bI .nil pass0 (pa_cons (pv 3) pa_nil)))
      (pss_cons (ps_set (i := 7) nd rfl (.inl rfl) (pe_make MI GI hr3 (by rfl) T.gC bI .nil pass0 (pa_cons (pv 4) pa_nil)))
      (C8.pss_cut (ps_for PassesOwn.never rfl (pi_list (pe_lst (pa_cons (pv 7) (pa_cons (pv 4) pa_nil)))) (pg_name (i := 8) nd rfl (.inl rfl))
        (pss_cons (ps_if (pt_not (pt_val (pe_call X9 hr (by rfl) m9 p9 c9 .nil pass0 (pa_cons (pv 3) (pa_cons (pv 4) (pa_cons (pv 6) (pa_cons (pv 8) pa_nil))))))) (pss_one (ps_ret pe_bl)) pss_nil)
        (pss_one (ps_if (pt_not (pt_val (pe_call X5 hr1 (by rfl) m5 p5 c5 .nil pass0 (pa_cons (pe_meth (pv 6) T.cl MW GW hr5 bW .nil pass0 (pa_cons (pv 8) pa_nil))
          (pa_cons (pe_cmpR op_eq (pe_call X6 hr1 (by rfl) m6 p6 c6 .nil pass0 (pa_cons (pe_op op_add_str (pv 3) (pv 4)) pa_nil)) (pe_call X6 hr1 (by rfl) m6 p6 c6 .nil pass0 (pa_cons (pv 4) pa_nil)) (nomark _)) pa_nil))))) (pss_one (ps_ret pe_bl)) pss_nil))))
      (pss_cons (ps_if (PW.pt (pw_or (pt_not (pt_val (pe_call X9 hr (by rfl) m9 p9 c9 .nil pass0 (pa_cons (pv 3) (pa_cons (pv 4) (pa_cons (pv 3) (pa_cons (pv 7) pa_nil)))))))
        (pw_or1 (pt_not (pt_val (pe_call X9 hr (by rfl) m9 p9 c9 .nil pass0 (pa_cons (pv 4) (pa_cons (pv 3) (pa_cons (pv 4) (pa_cons (pv 6) pa_nil)))))))))) (pss_one (ps_ret pe_bl)) pss_nil)
      (pss_cons (ps_set (i := 10) nd rfl (.inl rfl) (pe_join pe_str (pe_lc (own := [("_law_sign", 9)]) (g := gName 9) rfl nd (pi_str (pe_call0 X3 hr1 (by rfl) m3 p3 c3 .nil pass0))
          (blkOk_by (N := Nl) (sc := defScope s_law) (by decide +kernel)) (fun _ _ _ _ _ => pg_name (i := 9) nd rfl (Or.inl rfl)) (fun _ _ _ _ _ => pts_one (pt_cmpR op_notIn_sign (pv 9) (pv 3) rfl)) (fun _ _ _ _ _ => pv 9))))
      (pss_cons (ps_if (PW.pt (pw_or (pt_not (pt_val (pe_call X8 hr4 (by rfl) m8 p8 c8 .nil pass0 (pa_cons (pe_un (un_own (E := E0) (opD MN) GN hr5 bN pass0) (pv 6)) (pa_cons (pv 10) pa_nil)))))
        (pw_or1 (pt_not (pt_val (pe_call X8 hr4 (by rfl) m8 p8 c8 .nil pass0 (pa_cons (pe_un (un_own (E := E0) (opD MN) GN hr5 bN pass0) (pe_un (un_own (E := E0) (opD MN) GN hr5 bN pass0) (pv 6))) (pa_cons (pe_call X6 hr1 (by rfl) m6 p6 c6 .nil pass0 (pa_cons (pv 3) pa_nil)) pa_nil)))))))) (pss_one (ps_ret pe_bl)) pss_nil)
      (pss_cons (ps_if (PW.pt (pw_or (pt_cmpR op_ne (pe_cmpR (op_inO (E := E0) (opD MH) GH hr2 bH pass0) (pv 5) (pv 6) rfl) (pe_cmpR op_in_sign (pv 5) (pv 3) rfl) (nomark _))
        (pw_or1 (pt_cmpR op_eq (pe_cmpR (op_inO (E := E0) (opD MH) GH hr2 bH pass0) (pv 5) (pe_un (un_own (E := E0) (opD MN) GN hr5 bN pass0) (pv 6)) rfl) (pe_cmpR op_in_sign (pv 5) (pv 3) rfl) (nomark _))))) (pss_one (ps_ret pe_bl)) pss_nil)
      (pss_cons (ps_set (i := 11) nd rfl (.inl rfl) (pv 6))
      (pss_cons (ps_aug (i := 11) nd rfl (.inl rfl) (pv 4) (ip_own (E := E0) (op := .BitOr) T.first (opD MJ) GJ hr6 bJ pass0))
      (pss_cons (ps_if (PW.pt (pw_or (pt_not (pt_val (pe_call X8 hr4 (by rfl) m8 p8 c8 .nil pass0 (pa_cons (pv 11) (pa_cons (pe_call X6 hr1 (by rfl) m6 p6 c6 .nil pass0 (pa_cons (pe_op op_add_str (pv 3) (pv 4)) pa_nil)) pa_nil)))))
        (pw_or1 (pt_not (pt_val (pe_call X8 hr4 (by rfl) m8 p8 c8 .nil pass0 (pa_cons (pv 6) (pa_cons (pe_call X6 hr1 (by rfl) m6 p6 c6 .nil pass0 (pa_cons (pv 3) pa_nil)) pa_nil)))))))) (pss_one (ps_ret pe_bl)) pss_nil)
      (pss_cons (ps_set (i := 11) nd rfl (.inl rfl) (pe_op (op_bin (E := E0) (op := .BitAnd) T.first (opD MA) GA hr5 bA pass0) (pe_un (un_own (E := E0) (opD MN) GN hr5 bN pass0) (pv 6)) (pv 7)))
      (pss_cons (ps_set (i := 12) nd rfl (.inl rfl) (pe_join pe_str (pe_lc (own := [("_law_sign", 9)]) (g := gName 9) rfl nd (pi_str (pe_call X6 hr1 (by rfl) m6 p6 c6 .nil pass0 (pa_cons (pv 4) pa_nil)))
          (blkOk_by (N := Nl) (sc := defScope s_law) (by decide +kernel)) (fun _ _ _ _ _ => pg_name (i := 9) nd rfl (Or.inl rfl)) (fun _ _ _ _ _ => pts_one (pt_cmpR op_notIn_sign (pv 9) (pv 3) rfl)) (fun _ _ _ _ _ => pv 9))))
      (pss_cons (ps_set (i := 13) nd rfl (.inl rfl) (pe_call X6 hr1 (by rfl) m6 p6 c6 .nil pass0 (pa_cons (pe_op op_add_str (pv 3) (pv 4)) pa_nil)))
      (pss_cons (ps_if (PW.pt (pw_or (pt_not (pt_val (pe_call X8 hr4 (by rfl) m8 p8 c8 .nil pass0 (pa_cons (pe_make MI GI hr3 (by rfl) T.gC bI .nil pass0 (pa_cons (pe_op op_add_str (pe_op op_mulTx (pv 3) pe_int) (pe_op op_mulTx (pv 4) pe_int)) pa_nil)) (pa_cons (pv 13) pa_nil)))))
        (pw_or1 (pt_not (pt_val (pe_call X8 hr4 (by rfl) m8 p8 c8 .nil pass0 (pa_cons (pe_op (op_binS (E := E0) (op := .BitOr) T.first (opD MO) (atD MP) (addr_ex fP) (T.s1 (m := "or") (by decide)) (T.s2 (m := "or") (by decide)) T.sStr GO hr5 bO pass0) (pv 6) (pe_op op_mulTx (pv 4) pe_int)) (pa_cons (pv 13) pa_nil)))))))) (pss_one (ps_ret pe_bl)) pss_nil)
      (pss_one (ps_ret (pe_and (pe_call X8 hr4 (by rfl) m8 p8 c8 .nil pass0 (pa_cons (pv 11) (pa_cons (pv 12) pa_nil)))
        (pe_and (pe_call X8 hr4 (by rfl) m8 p8 c8 .nil pass0 (pa_cons (pe_make0 MI GI hr3 (by rfl) T.gC bI0 vds pass0) (pa_cons pe_str pa_nil)))
        (pe_one (pe_call X8 hr4 (by rfl) m8 p8 c8 .nil pass0 (pa_cons (pv 7) (pa_cons (pe_call X6 hr1 (by rfl) m6 p6 c6 .nil pass0 (pa_cons (pv 4) pa_nil)) pa_nil))))))))))))))))))))))))))), ?_⟩
    -- the bag, the letters, the two texts, the probe
    refine ⟨_, rfl, a, ns, rfl, hS, hlen, fun b c H1 hb0 hc0 B1 s1 => ?_⟩
    refine ⟨_, rfl, _, rfl, b, c, 12, rfl, B1, by decide, by decide, fun d H2 d0 d12 B2 K2 => ?_⟩
    refine ⟨_, _, rfl, rfl, b, c, _, rfl, B2, by omega, by omega, fun p abc H3 el nd3 sub hp0 hp B3 K3 => ?_⟩
    obtain ⟨n2, m2', k2', hb2⟩ := B2.top
    obtain ⟨ns2, hc2⟩ := B2.cells
    have npb : p ≠ b := Ne.symm (ne_of_none hb2 hp0)
    have npc : p ≠ c := Ne.symm (ne_of_none hc2 hp0)
    refine ⟨_, rfl, _, rfl, b, c, p, abc, rfl, B3, hp, npb, npc, by omega, by omega, sub, fun l H4 l6 hl B4 K4 => ?_⟩
    refine ⟨_, rfl, _, rfl, b, c, p, abc, rfl, B4, K4 _ _ hp npb npc, npb, npc, by omega, by omega, sub, fun k H5 k6 hk B5 K5 => ?_⟩
    refine ⟨rfl, _, rfl, b, c, 94, rfl, B5, by decide, by decide, fun e H6 e0 e94 B6 K6 => ?_⟩
    have hj : e.toNat < alpha.length := by
      rw [alpha_len]
      omega
    have hat : atI (tx alpha).cps.toList e = some alpha[e.toNat] := by
      have z : atI alpha ((e.toNat : Nat) : Int) = some alpha[e.toNat] := atI_nat (List.getElem?_eq_getElem hj)
      have ee : ((e.toNat : Nat) : Int) = e := by omega
      exact (congrArg (atI alpha) ee).symm.trans z
    have hpr : alpha[e.toNat] ∈ alpha := List.getElem_mem hj
    generalize alpha[e.toNat] = pr at hat hpr
    refine ⟨tx alpha, e, pr, rfl, rfl, line_small (by rw [len_tx, alpha_len]; decide), hat, ?_⟩
    -- the two sets
    have tl : SgT l := ⟨hl, by omega⟩
    have tk : SgT k := ⟨hk, by omega⟩
    refine ⟨_, rfl, fun r1 d1 h1 hd1 ne1 => ⟨r1, d1, l, rfl, upd_same, tl, fun H7 k7 e7 => ⟨rfl, ?_⟩⟩⟩
    have s7 := made_same h1 hd1 k7
    refine ⟨_, rfl, fun r2 d2 h2 hd2 ne2 => ⟨r2, d2, k, rfl, upd_same, tk, fun H8 k8 e8 => ⟨rfl, ?_⟩⟩⟩
    have s8 := made_same h2 hd2 k8
    have e7' := s8 _ _ e7
    have G1 : ∀ Hn, Same H8 Hn → Sg C Hn r1 (norm l) := fun Hn z => ⟨⟨d1, z _ _ e7'⟩, norm_norm l⟩
    have G2 : ∀ Hn, Same H8 Hn → Sg C Hn r2 (norm k) := fun Hn z => ⟨⟨d2, z _ _ e8⟩, norm_norm k⟩
    have hlk : ∀ n ∈ l ++ k, n ∈ alpha := fun n hn => (List.mem_append.mp hn).elim (hl n) (hk n)
    have llk : (l ++ k).length ≤ 60 := by
      rw [List.length_append]
      omega
    have line2 : (tx l).length + (tx k).length ≤ sizeLine := line_small (by rw [len_tx, len_tx]; omega)
    refine ⟨fun σ' H' => ∃ x8, σ' = [some (.ref a), some (.ref b), some (.ref p), some (.str (tx l)), some (.str (tx k)), some (.str (sg pr)), some (.ref r1), some (.ref r2), x8, none, none, none, none, none] ∧ Same H8 H', ?_, ?_⟩
    · -- the loop
      refine ⟨_, rfl, _, rfl, line_small (by show 2 ≤ 16777216; decide), fun q0 hq0 => ?_⟩
      have sq : Same H8 (upd H8 q0 (.lst [.ref r2, .str (tx k)])) := same_new hq0
      refine ⟨q0, rfl, ⟨_, SqL.of upd_same⟩, for_list (K := K) (a := q0) (xs := [.ref r2, .str (tx k)]) (fun i σ' H' => ∃ x8, σ' = [some (.ref a), some (.ref b), some (.ref p), some (.str (tx l)), some (.str (tx k)), some (.str (sg pr)), some (.ref r1), some (.ref r2), x8, none, none, none, none, none] ∧ Same (upd H8 q0 (.lst [.ref r2, .str (tx k)])) H') ⟨none, rfl, Same.refl _⟩ (fun i σ' H' _ ⟨_, _, z⟩ => SqL.of (z _ _ upd_same)) ?_ ?_⟩
      · rintro i x σ' H9 hx ⟨x8, rfl, s9⟩
        have S9 := sq.trans s9
        have ox : ∀ Hn, Same H8 Hn → Opd C Hn x (norm k) := fun Hn z => by
          match i, hx with
          | 0, hx =>
            have ex : V.ref r2 = x := Option.some.inj hx
            exact .inl ⟨r2, ex.symm, G2 Hn z⟩
          | 1, hx =>
            have ex : V.str (tx k) = x := Option.some.inj hx
            exact .inr ⟨k, ex.symm, tk, rfl⟩
          | i + 2, hx => cases hx
        refine ⟨_, rfl, _, rfl, _, rfl, _, rfl, l, k, .ref r1, x, rfl, hl, hk, l6, k6, .inl ⟨r1, rfl, G1 _ S9⟩, ox _ S9, .inl ⟨r1, rfl⟩, fun Ha sa => ⟨true, rfl, iteF ?_⟩⟩
        have Sa := S9.trans sa
        obtain ⟨⟨da, ea⟩, _⟩ := G1 _ Sa
        refine ⟨_, rfl, r1, da, _, rfl, ea, flS_no _ (by decide), _, rfl, r1, x, norm l, norm k, rfl, G1 _ Sa, ox _ Sa, fun Hb sb => ?_⟩
        refine ⟨_, rfl, _, rfl, _, _, rfl, rfl, line2, l ++ k, by rw [tx_app]; rfl, hlk, llk, fun Hc sc => ?_⟩
        refine ⟨_, rfl, k, rfl, hk, by omega, fun Hd sd => ⟨rfl, _, _, rfl, true, ?_, iteF ?_⟩⟩
        · rw [within_eq hl hk, decT rfl]
        · exact ⟨_, rfl, (((s9.trans sa).trans sb).trans sc).trans sd⟩
      · rintro σ' H9 ⟨x8, rfl, s9⟩
        exact ⟨x8, rfl, sq.trans s9⟩
    · rintro σ' H9 ⟨x8, rfl, S9⟩
      -- the pairs the other way round
      refine ⟨_, rfl, _, rfl, _, rfl, _, rfl, l, k, .str (tx l), .ref r2, rfl, hl, hk, l6, k6, .inr ⟨l, rfl, tl, rfl⟩, .inl ⟨r2, rfl, G2 _ S9⟩, .inr ⟨r2, rfl⟩, fun Ha sa => ⟨true, rfl, iteF ?_⟩⟩
      have Sa := S9.trans sa
      refine ⟨_, rfl, _, rfl, _, rfl, _, rfl, k, l, .str (tx k), .ref r1, rfl, hk, hl, k6, l6, .inr ⟨k, rfl, tk, rfl⟩, .inl ⟨r1, rfl, G1 _ Sa⟩, .inr ⟨r1, rfl⟩, fun Hb sb => ⟨true, rfl, iteF ?_⟩⟩
      have Sb := Sa.trans sb
      -- the complement
      unfold tNext
      dsimp only
      refine seq_go (asg_go ?_)
      refine join_txG (i := 9) (l := alpha) (p := fun n => !decide (n ∈ l)) rfl (by rw [alpha_len]; decide) (fun Q' z => ⟨rfl, z _ (Same.refl _)⟩) (fun _ => rfl) (fun _ => rfl) (fun n H2 Qb _ z => ⟨_, rfl, _, rfl, n, tx l, rfl, rfl, _, rfl, z⟩) fun Hc sc => ?_
      refine name_go ?_
      dsimp only
      have Sc := Sb.trans sc
      obtain ⟨⟨dc, ec⟩, _⟩ := G1 _ Sc
      refine ⟨_, rfl, r1, dc, _, rfl, ec, r1, norm l, rfl, G1 _ Sc, fun r3 Hd sd h3 g3 => ?_⟩
      rw [compl_eq hl] at g3
      refine ⟨_, rfl, r3, _, rfl, g3, fun He se => ⟨true, rfl, iteF ?_⟩⟩
      have Se := (Sc.trans sd).trans se
      obtain ⟨⟨de, ee⟩, _⟩ := G1 _ Se
      refine ⟨_, rfl, r1, de, _, rfl, ee, r1, norm l, rfl, G1 _ Se, fun r4 Hf sf h4 g4 => ?_⟩
      obtain ⟨⟨df, ef⟩, _⟩ := id g4
      refine ⟨r4, df, _, rfl, ef, r4, _, rfl, g4, fun r5 Hg sg' h5 g5 => ?_⟩
      rw [compl_two] at g5
      refine ⟨_, rfl, l, rfl, hl, by omega, fun Hh sh => ?_⟩
      refine ⟨r5, norm l, rfl, g5.at fun o z => sh _ _ z, fun Hi si => ⟨true, rfl, iteF ?_⟩⟩
      have Si := (((Se.trans sf).trans sg').trans sh).trans si
      -- the probe
      obtain ⟨⟨di, ei⟩, _⟩ := G1 _ Si
      refine ⟨_, rfl, _, rfl, r1, di, _, rfl, ei, r1, norm l, pr, rfl, G1 _ Si, hpr, _, rfl, ?_⟩
      refine ⟨_, rfl, _, rfl, pr, tx l, rfl, rfl, rfl, _, rfl, ifF ?_ ?_⟩
      · show (!decide (V.bl (decide (pr ∈ norm l)) = V.bl (decide (pr ∈ l)))) = false
        rw [decide_eq_decide.mpr (mem_norm hl pr), decT rfl]
        rfl
      refine ⟨_, rfl, _, rfl, r1, di, _, rfl, ei, r1, norm l, rfl, G1 _ Si, fun r6 Hj sj h6 g6 => ?_⟩
      obtain ⟨⟨dj, ej⟩, _⟩ := id g6
      refine ⟨r6, dj, _, rfl, ej, r6, _, pr, rfl, g6, hpr, _, rfl, ?_⟩
      refine ⟨_, rfl, _, rfl, pr, tx l, rfl, rfl, rfl, _, rfl, ifF ?_ ?_⟩
      · show decide (V.bl (decide (pr ∈ fSub alpha (norm l))) = V.bl (decide (pr ∈ l))) = false
        rw [decide_eq_decide.mpr (mem_compl hpr), ← decide_eq_decide.mpr (mem_norm hl pr)]
        refine decide_eq_false fun z => ?_
        have z2 := V.bl.inj z
        by_cases c : pr ∈ norm l
        · rw [decide_eq_true c, decide_eq_false (fun y => y c)] at z2
          cases z2
        · rw [decide_eq_false c, decide_eq_true c] at z2
          cases z2
      have Sj := Si.trans sj
      -- bound = first; bound |= two
      dsimp only
      refine seq_go ⟨_, rfl, ?_⟩
      refine name_go ?_
      dsimp only
      obtain ⟨⟨dk, ek⟩, _⟩ := G1 _ Sj
      refine seq_go ⟨_, rfl, _, rfl, r1, dk, _, rfl, ek, r1, k, norm l, rfl, G1 _ Sj, tk, fun r7 Hk sk h7 g7 => ?_⟩
      have e7o : fOr (norm l) (norm k) = norm (l ++ k) := norm_app l k
      rw [e7o] at g7
      dsimp only
      refine seq_go ⟨_, rfl, _, rfl, _, rfl, _, _, rfl, rfl, line2, l ++ k, by rw [tx_app]; rfl, hlk, llk, fun Hl sl => ?_⟩
      refine ⟨r7, _, rfl, g7.at fun o z => sl _ _ z, fun Hm sm => ⟨true, rfl, iteF ?_⟩⟩
      have Sm := ((Sj.trans sk).trans sl).trans sm
      refine ⟨_, rfl, _, rfl, l, rfl, hl, by omega, fun Hn sn => ?_⟩
      have Sn := Sm.trans sn
      refine ⟨r1, norm l, rfl, G1 _ Sn, fun Ho so => ⟨true, rfl, iteF ?_⟩⟩
      have So := Sn.trans so
      -- bound = ~first & second
      dsimp only
      obtain ⟨⟨do_, eo⟩, _⟩ := G1 _ So
      refine seq_go (asg_go ?_)
      refine ⟨_, rfl, r1, do_, _, rfl, eo, r1, norm l, rfl, G1 _ So, fun r8 Hp' sp h8 g8 => ?_⟩
      have Sp' := So.trans sp
      obtain ⟨⟨dp, ep⟩, _⟩ := id g8
      obtain ⟨⟨dq, eq⟩, _⟩ := G2 _ Sp'
      refine ⟨_, rfl, r8, dp, _, r2, dq, _, rfl, rfl, ep, eq, r8, _, _, norm k, rfl, g8, .inl ⟨r2, rfl, G2 _ Sp'⟩, fun r9 Hq sq9 h9 g9 => ?_⟩
      rw [diff_eq hl hk] at g9
      have Sq := Sp'.trans sq9
      refine name_go ?_
      dsimp only
      refine seq_go (asg_go ?_)
      refine join_txG (i := 9) (l := norm k) (p := fun n => !decide (n ∈ l)) rfl (Nat.le_trans (norm_len k) (by decide)) (fun Q' z => ⟨_, rfl, k, rfl, hk, by omega, z⟩) (fun _ => rfl) (fun _ => rfl) (fun n H2 Qb _ z => ⟨_, rfl, _, rfl, n, tx l, rfl, rfl, _, rfl, z⟩) fun Hr sr => ?_
      refine name_go ?_
      dsimp only
      have g9r : Sg C Hr r9 _ := g9.at fun o z => sr _ _ z
      have Sr := Sq.trans sr
      refine seq_go ⟨_, rfl, _, rfl, _, _, rfl, rfl, line2, l ++ k, by rw [tx_app]; rfl, hlk, llk, fun Hs ss => ?_⟩
      refine name_go ?_
      dsimp only
      have g9s : Sg C Hs r9 _ := g9r.at fun o z => ss _ _ z
      have Ss := Sr.trans ss
      -- many times the same signs
      have tR : SgT ((List.replicate 100 l).flatten ++ (List.replicate 150 k).flatten) := ⟨fun n hn => (List.mem_append.mp hn).elim (fun z => hl n (mem_rep.1 z)) fun z => hk n (mem_rep.1 z), by rw [List.length_append, len_rep, len_rep]; omega⟩
      have tR2 : SgT (List.replicate 150 k).flatten := ⟨fun n hn => hk n (mem_rep.1 hn), by rw [len_rep]; omega⟩
      have eR : norm ((List.replicate 100 l).flatten ++ (List.replicate 150 k).flatten) = norm (l ++ k) := norm_congr fun n _ => by
        rw [List.mem_append, List.mem_append, mem_rep, mem_rep]
      have eR2 : norm (List.replicate 150 k).flatten = norm k := norm_congr fun n _ => mem_rep
      refine seq_go ⟨_, rfl, l, 100, rfl, rfl, by decide, by omega, _, rfl, k, 150, rfl, rfl, by decide, by omega, _, _, rfl, rfl, ?_, ?_⟩
      · rw [len_tx, len_tx, len_rep, len_rep]
        exact line_small (by omega)
      refine fun r10 d10 h10 hd10 ne10 => ⟨r10, d10, (List.replicate 100 l).flatten ++ (List.replicate 150 k).flatten, by rw [tx_app]; rfl, upd_same, tR, fun Ht kt et => ⟨rfl, ?_⟩⟩
      have st := made_same h10 hd10 kt
      rw [eR] at et
      have g9t : Sg C Ht r9 _ := g9s.at fun o z => st _ _ z
      refine ⟨_, rfl, r10, norm (l ++ k), rfl, ⟨⟨d10, et⟩, norm_norm _⟩, fun Hu su => ⟨true, rfl, iteF ?_⟩⟩
      have g9u : Sg C Hu r9 _ := g9t.at fun o z => su _ _ z
      have Su := (Ss.trans st).trans su
      obtain ⟨⟨du, eu⟩, _⟩ := G1 _ Su
      refine ⟨_, rfl, _, rfl, k, 150, rfl, rfl, by decide, by omega, r1, du, _, _, rfl, rfl, eu, r1, _, norm l, norm (List.replicate 150 k).flatten, rfl, G1 _ Su, .inr ⟨_, rfl, tR2, rfl⟩, fun r11 Hv sv h11 g11 => ?_⟩
      rw [eR2, e7o] at g11
      have g9v : Sg C Hv r9 _ := g9u.at fun o z => sv _ _ z
      refine ⟨_, rfl, r11, _, rfl, g11, fun Hw sw => ⟨true, rfl, iteF ?_⟩⟩
      have g9w : Sg C Hw r9 _ := g9v.at fun o z => sw _ _ z
      have Sw := (Su.trans sv).trans sw
      -- the end
      dsimp only
      refine ⟨_, rfl, _, rfl, r9, _, rfl, g9w, fun Hx sx => ⟨true, rfl, iteT ?_⟩⟩
      have Sx := Sw.trans sx
      refine fun r12 d12 h12 hd12 ne12 => ⟨r12, d12, [], rfl, upd_same, ⟨fun n hn => by simp at hn, by simp⟩, fun Hy ky ey => ⟨rfl, ?_⟩⟩
      have sy := made_same h12 hd12 ky
      have e0n : norm [] = [] := by decide +kernel
      rw [e0n] at ey
      refine ⟨r12, [], rfl, ⟨⟨d12, ey⟩, e0n⟩, fun Hz sz => ⟨true, rfl, iteT ?_⟩⟩
      have Sz := (Sx.trans sy).trans sz
      refine ⟨_, rfl, _, rfl, k, rfl, hk, by omega, fun H97 s97 => ?_⟩
      exact ⟨r2, norm k, rfl, G2 _ (Sz.trans s97), fun H98 s98 => q H98⟩
end
end K01

namespace K01
open PySem PySem.Spec PyProof.Rows L2 Tl
theorem facts {P : Program} {w : World} {K : PySem.W.Frag} {h : Heap} {mg : Str → Option Value} {f : Addr} (X : K.In h) (G : h.Ns mainGlobals mg) (hfa : mg ("law" : Str) = some (.ref f)) (c0 : He.SaysD fa fn K) (hex : ex K = true) :
    ∃ fd : FuncData, (∀ (s : Shared) (v : Value), BindsTo s fd ⟨[v], []⟩ [("_law_script", v)]) ∧ ∀ base : Heap, K.In base → base.Ns mainGlobals mg → FnOk P w K mg base CX0 8 f fd ["_law_script"] (spLaw K) := by
  obtain ⟨e_Signs_init_, F_Signs_init_⟩ := c0.def_ 0 (d := d_Signs_init_) rfl
  obtain ⟨e_Signs_or_, F_Signs_or_⟩ := c0.def_ 1 (d := d_Signs_or_) rfl
  obtain ⟨e_Signs_ror_, F_Signs_ror_⟩ := c0.def_ 2 (d := d_Signs_ror_) rfl
  obtain ⟨e_Signs_ior_, F_Signs_ior_⟩ := c0.def_ 3 (d := d_Signs_ior_) rfl
  obtain ⟨e_Signs_and_, F_Signs_and_⟩ := c0.def_ 4 (d := d_Signs_and_) rfl
  obtain ⟨e_Signs_rand_, F_Signs_rand_⟩ := c0.def_ 5 (d := d_Signs_rand_) rfl
  obtain ⟨e_Signs_sub_, F_Signs_sub_⟩ := c0.def_ 6 (d := d_Signs_sub_) rfl
  obtain ⟨e_Signs_rsub_, F_Signs_rsub_⟩ := c0.def_ 7 (d := d_Signs_rsub_) rfl
  obtain ⟨e_Signs_invert_, F_Signs_invert_⟩ := c0.def_ 8 (d := d_Signs_invert_) rfl
  obtain ⟨e_Signs_eq_, F_Signs_eq_⟩ := c0.def_ 9 (d := d_Signs_eq_) rfl
  obtain ⟨e_Signs_len_, F_Signs_len_⟩ := c0.def_ 10 (d := d_Signs_len_) rfl
  obtain ⟨e_Signs_bool_, F_Signs_bool_⟩ := c0.def_ 11 (d := d_Signs_bool_) rfl
  obtain ⟨e_Signs_contains_, F_Signs_contains_⟩ := c0.def_ 12 (d := d_Signs_contains_) rfl
  obtain ⟨e_Signswithin, F_Signswithin⟩ := c0.def_ 13 (d := d_Signswithin) rfl
  obtain ⟨e_Signsleast, F_Signsleast⟩ := c0.def_ 14 (d := d_Signsleast) rfl
  obtain ⟨e_Signsspelled, F_Signsspelled⟩ := c0.def_ 15 (d := d_Signsspelled) rfl
  obtain ⟨e_is_sign, F_is_sign⟩ := c0.def_ 16 (d := d_is_sign) rfl
  obtain ⟨e_is_sign_text, F_is_sign_text⟩ := c0.def_ 17 (d := d_is_sign_text) rfl
  obtain ⟨e_signs_of, F_signs_of⟩ := c0.def_ 18 (d := d_signs_of) rfl
  obtain ⟨e_kept_signs, F_kept_signs⟩ := c0.def_ 19 (d := d_kept_signs) rfl
  obtain ⟨e_other_signs, F_other_signs⟩ := c0.def_ 20 (d := d_other_signs) rfl
  obtain ⟨e_l_bag, F_l_bag⟩ := c0.def_ 21 (d := d_l_bag) rfl
  obtain ⟨e_l_draw, F_l_draw⟩ := c0.def_ 22 (d := d_l_draw) rfl
  obtain ⟨e_l_alphabet, F_l_alphabet⟩ := c0.def_ 23 (d := d_l_alphabet) rfl
  obtain ⟨e_l_letters, F_l_letters⟩ := c0.def_ 24 (d := d_l_letters) rfl
  obtain ⟨e_l_flag, F_l_flag⟩ := c0.def_ 25 (d := d_l_flag) rfl
  obtain ⟨e_l_once, F_l_once⟩ := c0.def_ 26 (d := d_l_once) rfl
  obtain ⟨e_l_string, F_l_string⟩ := c0.def_ 27 (d := d_l_string) rfl
  obtain ⟨e_l_is, F_l_is⟩ := c0.def_ 28 (d := d_l_is) rfl
  obtain ⟨e_l_pairs, F_l_pairs⟩ := c0.def_ 29 (d := d_l_pairs) rfl
  obtain ⟨e_law, F_law⟩ := c0.def_ 30 (d := d_law) rfl
  have e := hfa.symm.trans (He.glo_ok X G (c0.fact 14 (f := .glo "law") rfl))
  cases e
  have b_Signs_or_ := FunD.bindsN (ps := ["self", "other"]) F_Signs_or_ fun _ _ _ _ _ _ us hl => match us, hl with | [_, _], _ => rfl
  have b_Signs_ror_ := FunD.bindsN (ps := ["self", "other"]) F_Signs_ror_ fun _ _ _ _ _ _ us hl => match us, hl with | [_, _], _ => rfl
  have b_Signs_ior_ := FunD.bindsN (ps := ["self", "other"]) F_Signs_ior_ fun _ _ _ _ _ _ us hl => match us, hl with | [_, _], _ => rfl
  have b_Signs_and_ := FunD.bindsN (ps := ["self", "other"]) F_Signs_and_ fun _ _ _ _ _ _ us hl => match us, hl with | [_, _], _ => rfl
  have b_Signs_rand_ := FunD.bindsN (ps := ["self", "other"]) F_Signs_rand_ fun _ _ _ _ _ _ us hl => match us, hl with | [_, _], _ => rfl
  have b_Signs_sub_ := FunD.bindsN (ps := ["self", "other"]) F_Signs_sub_ fun _ _ _ _ _ _ us hl => match us, hl with | [_, _], _ => rfl
  have b_Signs_rsub_ := FunD.bindsN (ps := ["self", "other"]) F_Signs_rsub_ fun _ _ _ _ _ _ us hl => match us, hl with | [_, _], _ => rfl
  have b_Signs_invert_ := FunD.bindsN (ps := ["self"]) F_Signs_invert_ fun _ _ _ _ _ _ us hl => match us, hl with | [_], _ => rfl
  have b_Signs_eq_ := FunD.bindsN (ps := ["self", "other"]) F_Signs_eq_ fun _ _ _ _ _ _ us hl => match us, hl with | [_, _], _ => rfl
  have b_Signs_len_ := FunD.bindsN (ps := ["self"]) F_Signs_len_ fun _ _ _ _ _ _ us hl => match us, hl with | [_], _ => rfl
  have b_Signs_bool_ := FunD.bindsN (ps := ["self"]) F_Signs_bool_ fun _ _ _ _ _ _ us hl => match us, hl with | [_], _ => rfl
  have b_Signs_contains_ := FunD.bindsN (ps := ["self", "x"]) F_Signs_contains_ fun _ _ _ _ _ _ us hl => match us, hl with | [_, _], _ => rfl
  have b_Signswithin := FunD.bindsN (ps := ["self", "other"]) F_Signswithin fun _ _ _ _ _ _ us hl => match us, hl with | [_, _], _ => rfl
  have b_Signsleast := FunD.bindsN (ps := ["self"]) F_Signsleast fun _ _ _ _ _ _ us hl => match us, hl with | [_], _ => rfl
  have b_Signsspelled := FunD.bindsN (ps := ["self"]) F_Signsspelled fun _ _ _ _ _ _ us hl => match us, hl with | [_], _ => rfl
  have b_is_sign := FunD.bindsN (ps := ["thing"]) F_is_sign fun _ _ _ _ _ _ us hl => match us, hl with | [_], _ => rfl
  have b_is_sign_text := FunD.bindsN (ps := ["thing"]) F_is_sign_text fun _ _ _ _ _ _ us hl => match us, hl with | [_], _ => rfl
  have b_signs_of := FunD.bindsN (ps := ["thing"]) F_signs_of fun _ _ _ _ _ _ us hl => match us, hl with | [_], _ => rfl
  have b_kept_signs := FunD.bindsN (ps := ["signs", "others"]) F_kept_signs fun _ _ _ _ _ _ us hl => match us, hl with | [_, _], _ => rfl
  have b_other_signs := FunD.bindsN (ps := ["signs", "others"]) F_other_signs fun _ _ _ _ _ _ us hl => match us, hl with | [_, _], _ => rfl
  have b_l_bag := FunD.bindsN (ps := ["_law_script"]) F_l_bag fun _ _ _ _ _ _ us hl => match us, hl with | [_], _ => rfl
  have b_l_draw := FunD.bindsN (ps := ["_law_bag_here", "_law_limit"]) F_l_draw fun _ _ _ _ _ _ us hl => match us, hl with | [_, _], _ => rfl
  have b_l_alphabet := FunD.bindsN (ps := []) F_l_alphabet fun _ _ _ _ _ _ us hl => match us, hl with | [], _ => rfl
  have b_l_letters := FunD.bindsN (ps := ["_law_bag_here", "_law_many"]) F_l_letters fun _ _ _ _ _ _ us hl => match us, hl with | [_, _], _ => rfl
  have b_l_flag := FunD.bindsN (ps := ["_law_actual", "_law_due"]) F_l_flag fun _ _ _ _ _ _ us hl => match us, hl with | [_, _], _ => rfl
  have b_l_once := FunD.bindsN (ps := ["_law_text"]) F_l_once fun _ _ _ _ _ _ us hl => match us, hl with | [_], _ => rfl
  have b_l_string := FunD.bindsN (ps := ["_law_bag_here", "_law_letters_here"]) F_l_string fun _ _ _ _ _ _ us hl => match us, hl with | [_, _], _ => rfl
  have b_l_is := FunD.bindsN (ps := ["_law_actual", "_law_due"]) F_l_is fun _ _ _ _ _ _ us hl => match us, hl with | [_, _], _ => rfl
  have b_l_pairs := FunD.bindsN (ps := ["_law_one", "_law_two", "_law_first", "_law_second"]) F_l_pairs fun _ _ _ _ _ _ us hl => match us, hl with | [_, _, _, _], _ => rfl
  have bI1 := FunD.binds1 (ps := ["self", "text"]) F_Signs_init_ 2 1 (by intro z; cases z) rfl fun _ _ _ _ _ _ _ us its hu hi => match us, its, hu, hi with | [_, _], [_], _, _ => ⟨_, rfl, rfl⟩
  have bI0 := FunD.binds1 (ps := ["self", "text"]) F_Signs_init_ 1 0 (by intro z; cases z) rfl fun _ _ _ _ _ _ _ us its hu hi => match us, its, hu, hi with | [_], [_], _, _ => ⟨_, rfl, rfl⟩
  obtain ⟨x0, hex⟩ := He.ba hex
  obtain ⟨x1, hex⟩ := He.ba hex
  obtain ⟨x2, hex⟩ := He.ba hex
  obtain ⟨x3, hex⟩ := He.ba hex
  obtain ⟨x4, hex⟩ := He.ba hex
  obtain ⟨x5, hex⟩ := He.ba hex
  obtain ⟨x6, hex⟩ := He.ba hex
  obtain ⟨x7, hex⟩ := He.ba hex
  have gS := He.str_ok X G (c0.fact 47 (f := .str "SIGNS" " !\"#$&'()*+,-./0123456789:;<=>?@ABCDEFGHIJKLMNOPQRSTUVWXYZ[\\]^_`abcdefghijklmnopqrstuvwxyz{|}~") rfl)
  obtain ⟨tS, gS⟩ := gS
  have eS : mg ("SIGNS" : Str) = some (.str (tx alpha) tS) := gS.trans (congrArg (fun z => some (Value.str z tS)) (by decide +kernel))
  have T : Txt K mg (He.ga K "Signs") :=
    { cl := He.cls_ok (c0.fact 16 (f := .cls "Signs") rfl), nS := He.noat_ok (c0.fact 34 (f := .noat "Signs" "signs") rfl), gC := He.glo_ok X G (c0.fact 15 (f := .glo "Signs") rfl), isi := He.free_ok X G (c0.fact 37 (f := .free "isinstance") rfl), str := He.free_ok X G (c0.fact 38 (f := .free "str") rfl), all := He.free_ok X G (c0.fact 39 (f := .free "all") rfl), len := He.free_ok X G (c0.fact 40 (f := .free "len") rfl), bool := He.free_ok X G (c0.fact 46 (f := .free "bool") rfl),
      sgn := ⟨tS, eS⟩, first := x0, kStr := of_decide_eq_true x1, kOwn := of_decide_eq_true x2, sStr := of_decide_eq_true x3, opStr := fun m hm => (He.ba (List.all_eq_true.mp x4 m hm)).imp He.eqO_ok He.eqO_ok, c1 := He.eqO_ok x5, c2 := He.eqO_ok x6, c3 := of_decide_eq_true x7, c4 := of_decide_eq_true hex }
  refine ⟨e_law, fun s v => FunD.bindsA (ps := ["_law_script"]) F_law (fun _ _ _ _ _ _ us hl => match us, hl with | [_], _ => rfl) s [v] rfl, fun base _ _ => ?_⟩
  have c_is_sign_text : Can P w K mg base "is_sign_text" ["thing"] 1 spText := ⟨_, e_is_sign_text, ok_is_sign_text F_is_sign_text T, He.glo_ok X G (c0.fact 1 (f := .glo "is_sign_text") rfl), F_is_sign_text.kp, b_is_sign_text⟩
  have MI := He.mkr_ok (c0.fact 17 (f := .mkr "Signs") rfl)
  have cMk : CanMk P w K mg base (He.ga K "Signs") := by
    obtain ⟨fT, fdT, GT, gT, kT, bT⟩ := c_is_sign_text
    obtain ⟨d1, v1, b1⟩ := bI1
    obtain ⟨d0, v0, b0⟩ := bI0
    have e1 : d1 = [] := by cases v1; rfl
    subst e1
    exact ⟨_, e_Signs_init_, MI, ok_init F_Signs_init_ T GT gT kT bT, b1, d0, v0, b0⟩
  have c_signs_of : Can P w K mg base "signs_of" ["thing"] 4 (spOf (He.ga K "Signs")) := ⟨_, e_signs_of, ok_signs_of F_signs_of T cMk, He.glo_ok X G (c0.fact 2 (f := .glo "signs_of") rfl), F_signs_of.kp, b_signs_of⟩
  have c_kept_signs : Can P w K mg base "kept_signs" ["signs", "others"] 1 (spTwo fAnd) := ⟨_, e_kept_signs, ok_kept_signs F_kept_signs, He.glo_ok X G (c0.fact 3 (f := .glo "kept_signs") rfl), F_kept_signs.kp, b_kept_signs⟩
  have c_other_signs : Can P w K mg base "other_signs" ["signs", "others"] 1 (spTwo fSub) := ⟨_, e_other_signs, ok_other_signs F_other_signs, He.glo_ok X G (c0.fact 4 (f := .glo "other_signs") rfl), F_other_signs.kp, b_other_signs⟩
  have c_is_sign : Can P w K mg base "is_sign" ["thing"] 1 spIsSign := ⟨_, e_is_sign, ok_is_sign F_is_sign T, He.glo_ok X G (c0.fact 0 (f := .glo "is_sign") rfl), F_is_sign.kp, b_is_sign⟩
  have m_Signs_or_ : CanM P w K mg base (He.ga K "Signs") "__or__" ["self", "other"] 5 (spOp (He.ga K "Signs") fOr) := ⟨_, e_Signs_or_, ok_or F_Signs_or_ T cMk c_signs_of, He.meth_ok (c0.fact 19 (f := .meth "Signs" "__or__") rfl), b_Signs_or_⟩
  have m_Signs_and_ : CanM P w K mg base (He.ga K "Signs") "__and__" ["self", "other"] 5 (spOp (He.ga K "Signs") fAnd) := ⟨_, e_Signs_and_, ok_and F_Signs_and_ T cMk c_signs_of c_kept_signs, He.meth_ok (c0.fact 22 (f := .meth "Signs" "__and__") rfl), b_Signs_and_⟩
  have m_Signs_sub_ : CanM P w K mg base (He.ga K "Signs") "__sub__" ["self", "other"] 5 (spOp (He.ga K "Signs") fSub) := ⟨_, e_Signs_sub_, ok_sub F_Signs_sub_ T cMk c_signs_of c_other_signs, He.meth_ok (c0.fact 24 (f := .meth "Signs" "__sub__") rfl), b_Signs_sub_⟩
  have m_Signs_rsub_ : CanM P w K mg base (He.ga K "Signs") "__rsub__" ["self", "other"] 5 (spOp (He.ga K "Signs") fun S U => fSub U S) := ⟨_, e_Signs_rsub_, ok_rsub F_Signs_rsub_ T cMk c_signs_of c_other_signs, He.meth_ok (c0.fact 25 (f := .meth "Signs" "__rsub__") rfl), b_Signs_rsub_⟩
  have m_Signs_ror_ : CanM P w K mg base (He.ga K "Signs") "__ror__" ["self", "other"] 6 (spOpT (He.ga K "Signs") fOr) := ⟨_, e_Signs_ror_, ok_ror F_Signs_ror_ T m_Signs_or_ ⟨_, He.meth_ok (c0.fact 20 (f := .meth "Signs" "__ror__") rfl)⟩, He.meth_ok (c0.fact 20 (f := .meth "Signs" "__ror__") rfl), b_Signs_ror_⟩
  have m_Signs_ior_ : CanM P w K mg base (He.ga K "Signs") "__ior__" ["self", "other"] 6 (spOpT (He.ga K "Signs") fOr) := ⟨_, e_Signs_ior_, ok_ior F_Signs_ior_ T m_Signs_or_ ⟨_, He.meth_ok (c0.fact 20 (f := .meth "Signs" "__ror__") rfl)⟩, He.meth_ok (c0.fact 21 (f := .meth "Signs" "__ior__") rfl), b_Signs_ior_⟩
  have m_Signs_rand_ : CanM P w K mg base (He.ga K "Signs") "__rand__" ["self", "other"] 6 (spOpT (He.ga K "Signs") fAnd) := ⟨_, e_Signs_rand_, ok_rand F_Signs_rand_ T m_Signs_and_ ⟨_, He.meth_ok (c0.fact 23 (f := .meth "Signs" "__rand__") rfl)⟩, He.meth_ok (c0.fact 23 (f := .meth "Signs" "__rand__") rfl), b_Signs_rand_⟩
  have m_Signs_invert_ : CanM P w K mg base (He.ga K "Signs") "__invert__" ["self"] 5 (spInv (He.ga K "Signs")) := ⟨_, e_Signs_invert_, ok_inv F_Signs_invert_ T cMk c_other_signs, He.meth_ok (c0.fact 26 (f := .meth "Signs" "__invert__") rfl), b_Signs_invert_⟩
  have m_Signs_eq_ : CanM P w K mg base (He.ga K "Signs") "__eq__" ["self", "other"] 1 (spEq (He.ga K "Signs")) := ⟨_, e_Signs_eq_, ok_eq F_Signs_eq_ T, He.meth_ok (c0.fact 27 (f := .meth "Signs" "__eq__") rfl), b_Signs_eq_⟩
  have m_Signs_len_ : CanM P w K mg base (He.ga K "Signs") "__len__" ["self"] 1 (spLen (He.ga K "Signs")) := ⟨_, e_Signs_len_, ok_len F_Signs_len_ T, He.meth_ok (c0.fact 28 (f := .meth "Signs" "__len__") rfl), b_Signs_len_⟩
  have m_Signs_bool_ : CanM P w K mg base (He.ga K "Signs") "__bool__" ["self"] 1 (spBool (He.ga K "Signs")) := ⟨_, e_Signs_bool_, ok_bool F_Signs_bool_ T, He.meth_ok (c0.fact 29 (f := .meth "Signs" "__bool__") rfl), b_Signs_bool_⟩
  have m_Signs_contains_ : CanM P w K mg base (He.ga K "Signs") "__contains__" ["self", "x"] 2 (spHas (He.ga K "Signs")) := ⟨_, e_Signs_contains_, ok_contains F_Signs_contains_ T c_is_sign, He.meth_ok (c0.fact 30 (f := .meth "Signs" "__contains__") rfl), b_Signs_contains_⟩
  have m_Signswithin : CanM P w K mg base (He.ga K "Signs") "within" ["self", "other"] 5 (spWithin (He.ga K "Signs")) := ⟨_, e_Signswithin, ok_within F_Signswithin T c_signs_of c_other_signs, He.meth_ok (c0.fact 31 (f := .meth "Signs" "within") rfl), b_Signswithin⟩
  have m_Signsleast : CanM P w K mg base (He.ga K "Signs") "least" ["self"] 1 (spLeast (He.ga K "Signs")) := ⟨_, e_Signsleast, ok_least F_Signsleast T, He.meth_ok (c0.fact 32 (f := .meth "Signs" "least") rfl), b_Signsleast⟩
  have m_Signsspelled : CanM P w K mg base (He.ga K "Signs") "spelled" ["self"] 1 (spSpelled (He.ga K "Signs")) := ⟨_, e_Signsspelled, ok_spelled F_Signsspelled T, He.meth_ok (c0.fact 33 (f := .meth "Signs" "spelled") rfl), b_Signsspelled⟩
  have Z : Clx P w K mg base (He.ga K "Signs") := ⟨cMk, m_Signs_or_, m_Signs_and_, m_Signs_sub_, m_Signs_ror_, m_Signs_ior_, m_Signs_rand_, m_Signs_rsub_, m_Signs_invert_, m_Signs_eq_, m_Signs_len_, m_Signs_bool_, m_Signs_contains_, m_Signswithin, m_Signsleast, m_Signsspelled⟩
  have c_l_bag : Can P w K mg base "_law_bag" ["_law_script"] 1 (spBag K) := ⟨_, e_l_bag, ok_bag F_l_bag (He.free_ok X G (c0.fact 42 (f := .free "list") rfl)), He.glo_ok X G (c0.fact 5 (f := .glo "_law_bag") rfl), F_l_bag.kp, b_l_bag⟩
  have c_l_draw : Can P w K mg base "_law_draw" ["_law_bag_here", "_law_limit"] 1 spDraw := ⟨_, e_l_draw, ok_draw F_l_draw T.len (He.free_ok X G (c0.fact 41 (f := .free "int") rfl)), He.glo_ok X G (c0.fact 6 (f := .glo "_law_draw") rfl), F_l_draw.kp, b_l_draw⟩
  have c_l_alphabet : Can P w K mg base "_law_alphabet" [] 1 spAlpha := ⟨_, e_l_alphabet, ok_alpha F_l_alphabet, He.glo_ok X G (c0.fact 7 (f := .glo "_law_alphabet") rfl), F_l_alphabet.kp, b_l_alphabet⟩
  have c_l_letters : Can P w K mg base "_law_letters" ["_law_bag_here", "_law_many"] 2 spLetters := by
    obtain ⟨fA, fdA, GA, gA, kA, bA⟩ := c_l_alphabet
    obtain ⟨fD, fdD, GD, gD, kD, bD⟩ := c_l_draw
    exact ⟨_, e_l_letters, ok_letters F_l_letters (He.free_ok X G (c0.fact 42 (f := .free "list") rfl)) T.len (He.free_ok X G (c0.fact 45 (f := .free "range") rfl)) GA gA kA bA GD gD kD bD, He.glo_ok X G (c0.fact 8 (f := .glo "_law_letters") rfl), F_l_letters.kp, b_l_letters⟩
  have c_l_flag : Can P w K mg base "_law_flag" ["_law_actual", "_law_due"] 1 spFlag := ⟨_, e_l_flag, ok_flag F_l_flag, He.glo_ok X G (c0.fact 9 (f := .glo "_law_flag") rfl), F_l_flag.kp, b_l_flag⟩
  have c_l_once : Can P w K mg base "_law_once" ["_law_text"] 1 spOnce := ⟨_, e_l_once, ok_once F_l_once (He.free_ok X G (c0.fact 42 (f := .free "list") rfl)) (He.free_ok X G (c0.fact 43 (f := .free "set") rfl)) (He.free_ok X G (c0.fact 44 (f := .free "sorted") rfl)), He.glo_ok X G (c0.fact 10 (f := .glo "_law_once") rfl), F_l_once.kp, b_l_once⟩
  have c_l_string : Can P w K mg base "_law_string" ["_law_bag_here", "_law_letters_here"] 2 spString := ⟨_, e_l_string, ok_string F_l_string (He.free_ok X G (c0.fact 45 (f := .free "range") rfl)) T.len c_l_draw, He.glo_ok X G (c0.fact 11 (f := .glo "_law_string") rfl), F_l_string.kp, b_l_string⟩
  have c_l_is : Can P w K mg base "_law_is" ["_law_actual", "_law_due"] 4 (spIs (He.ga K "Signs")) := ⟨_, e_l_is, ok_is F_l_is T Z, He.glo_ok X G (c0.fact 12 (f := .glo "_law_is") rfl), F_l_is.kp, b_l_is⟩
  have c_l_pairs : Can P w K mg base "_law_pairs" ["_law_one", "_law_two", "_law_first", "_law_second"] 7 (spPairs (He.ga K "Signs")) := ⟨_, e_l_pairs, ok_pairs F_l_pairs T Z c_l_once c_l_is, He.glo_ok X G (c0.fact 13 (f := .glo "_law_pairs") rfl), F_l_pairs.kp, b_l_pairs⟩
  exact ok_law F_law T Z ⟨c_l_bag, c_l_draw, c_l_alphabet, c_l_letters, c_l_flag, c_l_once, c_l_string, c_l_is, c_l_pairs⟩
end K01
open PySem PySem.W PySem.Calls PyProof.Rows
set_option maxRecDepth 100000 in
set_option maxHeartbeats 0 in
theorem PySem.Challenge.cw_townlines_k01_signs_operators_holds : PySem.Challenge.rw_townlines_k01_signs_operators.Holds := by
  w_on; o_law
  refine HandSHeadRun.head_any (r := OpenLaw.row PySem.Challenge.rw_townlines_k01_signs_operators) (q := view (OpenLaw.row PySem.Challenge.rw_townlines_k01_signs_operators).prog [22]) (H := K01.hk) (ob := K01.ob) (M := 3000) (loose := K01.loose) (d := HandSHeadRun.topDef (OpenLaw.row PySem.Challenge.rw_townlines_k01_signs_operators).prog 22) (kwd := []) K01.ob_eq
    (by kernel_rfl) (fun s => by kernel_rfl) K01.run (by kernel_rfl) (by kernel_rfl) (by kernel_rfl) (by rfl) (by first | assumption | decide +kernel) (by decide +kernel) ⟨rfl, rfl, rfl, rfl, rfl, by decide +kernel⟩ ?hw ?hc
  case hw => w_witness2
  case hc =>
    refine L2.walk_ofE (l := PySem.Challenge.rw_townlines_k01_signs_operators) (n := 63) (k := 8) (x := "_law_script") (CX := L2.CX0) rfl (by decide) (by kernel_rfl) ⟨rfl, by decide, by decide⟩ ?F (fun _ _ _ _ z => z)
    intro w mg fa h Y G hmg0
    obtain ⟨K, KX, c⟩ := Y
    have hmg : mg ("law" : PySem.Str) = some (.ref fa) := by
      have e : (HandSHeadRun.topDef (OpenLaw.row PySem.Challenge.rw_townlines_k01_signs_operators).prog 22).name = ("law" : PySem.Str) := by kernel_rfl
      rw [← e]
      exact hmg0
    obtain ⟨fd, hb, hF⟩ := K01.facts (P := (PySem.Challenge.rw_townlines_k01_signs_operators).prog) (w := w) KX G hmg c.t.d c.more
    exact ⟨K, fd, K01.spLaw K, KX, hb, fun H a ns hl _ hS => ⟨a, ns, rfl, hS, hl, fun _ => rfl⟩, hF⟩
#print axioms PySem.Challenge.cw_townlines_k01_signs_operators_holds

